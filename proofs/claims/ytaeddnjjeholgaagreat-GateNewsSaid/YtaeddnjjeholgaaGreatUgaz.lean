/- Texts side by side. -/
import Derived.Test.YtaeddnjjeholgaaGreatUgax
import Derived.Test.YtaeddnjjeholgaaGreatUgbb
set_option linter.unusedVariables false
set_option linter.unusedSimpArgs false
set_option maxRecDepth 100000
set_option maxHeartbeats 16000000
namespace Go.Proofs.YtaeddnjjeholgaaGreat
open Kap Lat Lax Go.ChangeShapes Go.WideShapes Go.ChangeAt Go.RowKit Go.Lib Mem Cel Bkp Bks Wpl Hpa Gpl Mdp Cfg Gow Gac Gat Gup Gex Gth Gmz Gsn Gsm Grf Gpw Glp Gpu
namespace Gor
open Gma (wpL_two)
def MadeU (base : Nat) (ρ : Nat → Nat) (q : Gq) (g0 g : Nat) (w : World) (v : Value) (G : Gp) (a' : Ap) (e : Ending) (w' : World) : Prop := e = .returned v ∧ ∃ ρ' r', Fs (· = g + 8) ρ w ρ' w' ∧ Gt base ρ' w' g0 q G ∧ Ac ρ' w' g0 g r' a'
def ordA (G : Gp) (a : Ap) (o : Od) : Ap :=
  if (lokF G.ac G.sy o.a o.s o.p o.q o.n o.t).1 ≠ 0 then thenA a [.one (.load 0 (.look a.place (.ord1 (lokF G.ac G.sy o.a o.s o.p o.q o.n o.t).1)))]
  else { thenA a ([.one (.take (shL (shaF G.sh G.ac.length o.a)))] ++ takes G (purseF G o.a).path ++ seeU (purseF G o.a).path ++ seeC (purseF G o.a).path ++ [.one (.load 0 (.look a.place (.ord2 o (lokF G.ac G.sy o.a o.s o.p o.q o.n o.t).2 (shaF G.sh G.ac.length o.a))))]) with pu := purseF G o.a }
theorem ordA_f {G : Gp} {a : Ap} {o : Od} {lk : Int × Int} (h : lk = lokF G.ac G.sy o.a o.s o.p o.q o.n o.t) (h' : ¬ lk.1 = 0) : ordA G a o = thenA a [.one (.load 0 (.look a.place (.ord1 lk.1)))] := by subst h; exact if_pos h'
theorem ordA_t {G : Gp} {a : Ap} {o : Od} {lk : Int × Int} {sn : Int} (h : lk = lokF G.ac G.sy o.a o.s o.p o.q o.n o.t) (h' : lk.1 = 0) (hs : sn = shaF G.sh G.ac.length o.a) : ordA G a o = thenA (thenA (thenA (thenA (thenA { a with pu := purseF G o.a } [.one (.take (shL sn))]) ((purseF G o.a).path.map fun n => .one (.take (ndL G n)))) ((purseF G o.a).path.map fun n => .one (.load (usedW n) (.used n)))) ((purseF G o.a).path.map fun n => .one (.load (capW n) (.caps n)))) [.one (.load 0 (.look a.place (.ord2 o lk.2 sn)))] := by
  subst h hs
  unfold ordA
  rw [if_neg (fun h => h h')]
  simp [thenA, takes, seeU, seeC]
theorem lok_in {ac : List Int} {sy : List (Int × Int × Int × Nat)} {a s p q n t : Int} (h : (lokF ac sy a s p q n t).1 = 0) : 0 ≤ a ∧ a < ac.length := by
  unfold lokF at h
  split at h
  · cases h
  · split at h
    · cases h
    · rename_i h1; exact Tre.inR_of (by simpa using h1)
theorem cut2 {ρ : Nat → Nat} {w1 w : World} {t5 t6 : TypeId} {b5 b6 : Nat} {u5 u6 v5 v6 : Value} (hz : ∀ k, w1.heap.size ≤ k → ρ k = 0) (hb : Below w1.heap.size w1 w) (h5 : Blk w b5 t5 #[u5]) (h6 : Blk w b6 t6 #[u6]) (l5 : w1.heap.size ≤ b5) (l6 : w1.heap.size ≤ b6) (hne : b5 ≠ b6) :
    ∃ (x5 x6 : Nat), Value.pointer (some ⟨b5, 0, none⟩) = .pointer (some ⟨x5, 0, none⟩) ∧ Value.pointer (some ⟨b6, 0, none⟩) = .pointer (some ⟨x6, 0, none⟩) ∧ Hid (Below w1.heap.size w1 ((w.setCell ⟨b5, 0, none⟩ v5).setCell ⟨b6, 0, none⟩ v6)) ∧ Hid (B1 ρ ((w.setCell ⟨b5, 0, none⟩ v5).setCell ⟨b6, 0, none⟩ v6) x5 t5 #[v5]) ∧ Hid (B1 ρ ((w.setCell ⟨b5, 0, none⟩ v5).setCell ⟨b6, 0, none⟩ v6) x6 t6 #[v6]) := by
  have k5 := blk_far (i := 0) (blk_set h5 0 v5) hne v6
  have k6 := blk_set (blk_far (i := 0) h6 (Ne.symm hne) v5) 0 v6
  exact ⟨b5, b6, rfl, rfl, κ ((hb.setCell (p := ⟨b5, 0, none⟩) l5 _).setCell (p := ⟨b6, 0, none⟩) l6 _), κ ⟨by simpa using k5, hz _ l5⟩, κ ⟨by simpa using k6, hz _ l6⟩⟩
theorem cut1 {ρ : Nat → Nat} {w1 w : World} {t5 : TypeId} {b5 : Nat} {u5 v5 : Value} (hz : ∀ k, w1.heap.size ≤ k → ρ k = 0) (hb : Below w1.heap.size w1 w) (h5 : Blk w b5 t5 #[u5]) (l5 : w1.heap.size ≤ b5) :
    ∃ (x5 : Nat), Value.pointer (some ⟨b5, 0, none⟩) = .pointer (some ⟨x5, 0, none⟩) ∧ Hid (Below w1.heap.size w1 (w.setCell ⟨b5, 0, none⟩ v5)) ∧ Hid (B1 ρ (w.setCell ⟨b5, 0, none⟩ v5) x5 t5 #[v5]) :=
  ⟨b5, rfl, κ (hb.setCell (p := ⟨b5, 0, none⟩) l5 _), κ ⟨by simpa using blk_set h5 0 v5, hz _ l5⟩⟩
theorem order_any (base : Nat) (ρ : Nat → Nat) (q : Gq) (r : Aq) (g0 g : Nat) (oa os : Int) (ox : Bool) (op oq on ot : Int) (G : Gp) (a : Ap) (w : World) (HG : Hid (Gt base ρ w g0 q G)) (ha : Hid (Ac ρ w g0 g r a)) (hgp : r.gp = none) (hmax : a.todo.length ≤ 1000) (HWS : Hid (WfS G.sy)) (hp : inI op) (hq : inI oq) (hal : G.ac.length ≤ 1000) (hsl : G.sy.length ≤ 1000) (hnl : G.nd.length ≤ 400) (s0 : 1 ≤ G.sh) (s1 : G.sh ≤ 1000) (HWN : Hid (WfN G.nd)) (HLF : Hid (∀ i, i < G.ac.length → inI (gI G.ac i))) (HPI : ∀ {x : Int}, Hid (∀ k, k < (purseF G x).path.length → 0 ≤ gI (purseF G x).path k ∧ gI (purseF G x).path k ≤ 400)) (hpl : ∀ x, (Tre.pathF G.nd 3 x).length ≤ 3) :
    Calls Tryz.prog 76 #[pv g, .agg #[.int .i64 oa, .int .i64 os, .bool ox, .int .i64 op, .int .i64 oq, .int .i64 on, .int .i64 ot]] w (MadeU base ρ q g0 g w (.tuple #[]) G (ordA G a ⟨oa, os, ox, op, oq, on, ot⟩)) := by
  have hmf := Gmk.make_f
  obtain ⟨lk, hlk⟩ : ∃ x, x = lokF G.ac G.sy oa os op oq on ot := ⟨_, rfl⟩
  have HLK := κ hlk
  have LOOK := fun (W : World) (hs : Hid (Smb W W.heap.size q.C G.sy)) => Rul3.look_any G.sh G.wi G.ra G.ta q.A q.B q.C q.c q.d q.f G.nd G.ac G.sy oa os ox op oq on ot W hs HWS hp hq (by omega) (by omega)
  rw [← hlk] at LOOK
  have LOOK := κ LOOK
  clear hlk
  go_enter Tryz.func76, Tryz.ntmps76
  have z1 := HG.out.new
  have z2 := new_alloc (o := .cells #[pv g] 46) z1
  have z3 := new_alloc (o := .cells #[.int .i64 oa, .int .i64 os, .bool ox, .int .i64 op, .int .i64 oq, .int .i64 on, .int .i64 ot] 51) z2
  have z4 := new_alloc (o := .cells #[pv g0] 36) z3
  have c2 := Ac.c0 (Ac.ext ha.out (below_step (β (w) (.cells #[pv g] 46)) (β ((w).alloc (.cells #[pv g] 46)) (.cells #[.int .i64 oa, .int .i64 os, .bool ox, .int .i64 op, .int .i64 oq, .int .i64 on, .int .i64 ot] 51))))
  have b5 : Below w.heap.size w ((((w).alloc (.cells #[pv g] 46)).alloc (.cells #[.int .i64 oa, .int .i64 os, .bool ox, .int .i64 op, .int .i64 oq, .int .i64 on, .int .i64 ot] 51)).alloc (.cells #[pv g0] 36)) := (below_step (below_step (β (w) (.cells #[pv g] 46)) (β ((w).alloc (.cells #[pv g] 46)) (.cells #[.int .i64 oa, .int .i64 os, .bool ox, .int .i64 op, .int .i64 oq, .int .i64 on, .int .i64 ot] 51))) (β (((w).alloc (.cells #[pv g] 46)).alloc (.cells #[.int .i64 oa, .int .i64 os, .bool ox, .int .i64 op, .int .i64 oq, .int .i64 on, .int .i64 ot] 51)) (.cells #[pv g0] 36)))
  have K6 : Hid (B1 ρ ((((w).alloc (.cells #[pv g] 46)).alloc (.cells #[.int .i64 oa, .int .i64 os, .bool ox, .int .i64 op, .int .i64 oq, .int .i64 on, .int .i64 ot] 51)).alloc (.cells #[pv g0] 36)) (w.heap.size) 46 #[pv g]) := κ (B1.ext (B1.mk (b := w.heap.size) (te := 46) (cs := #[pv g]) z1 (by simp)) (below_step (β ((w).alloc (.cells #[pv g] 46)) (.cells #[.int .i64 oa, .int .i64 os, .bool ox, .int .i64 op, .int .i64 oq, .int .i64 on, .int .i64 ot] 51)) (β (((w).alloc (.cells #[pv g] 46)).alloc (.cells #[.int .i64 oa, .int .i64 os, .bool ox, .int .i64 op, .int .i64 oq, .int .i64 on, .int .i64 ot] 51)) (.cells #[pv g0] 36))))
  have K7 : Hid (B1 ρ ((((w).alloc (.cells #[pv g] 46)).alloc (.cells #[.int .i64 oa, .int .i64 os, .bool ox, .int .i64 op, .int .i64 oq, .int .i64 on, .int .i64 ot] 51)).alloc (.cells #[pv g0] 36)) (w.heap.size + 1) 51 #[.int .i64 oa, .int .i64 os, .bool ox, .int .i64 op, .int .i64 oq, .int .i64 on, .int .i64 ot]) := κ (B1.ext (B1.mk (b := w.heap.size + 1) (te := 51) (cs := #[.int .i64 oa, .int .i64 os, .bool ox, .int .i64 op, .int .i64 oq, .int .i64 on, .int .i64 ot]) z2 (by simp)) (β (((w).alloc (.cells #[pv g] 46)).alloc (.cells #[.int .i64 oa, .int .i64 os, .bool ox, .int .i64 op, .int .i64 oq, .int .i64 on, .int .i64 ot] 51)) (.cells #[pv g0] 36)))
  have K8 : Hid (B1 ρ ((((w).alloc (.cells #[pv g] 46)).alloc (.cells #[.int .i64 oa, .int .i64 os, .bool ox, .int .i64 op, .int .i64 oq, .int .i64 on, .int .i64 ot] 51)).alloc (.cells #[pv g0] 36)) (w.heap.size + 1 + 1) 36 #[pv g0]) := κ (B1.mk (b := w.heap.size + 1 + 1) (te := 36) (cs := #[pv g0]) z3 (by simp))
  have H9 := κ (Gt.ext HG.out b5)
  have H10 := κ (Ac.ext ha.out b5)
  go_upto_region 2 with fail
  obtain ⟨g11, e12⟩ : ∃ x, x = w.heap.size + 1 + 1 := ⟨_, rfl⟩
  obtain ⟨g13, e14⟩ : ∃ x, x = w.heap.size + 1 := ⟨_, rfl⟩
  obtain ⟨g15, e16⟩ : ∃ x, x = w.heap.size := ⟨_, rfl⟩
  simp only [← e12] at K6 K7 K8 ⊢
  simp only [← e14] at K6 K7 K8 ⊢
  simp only [← e16] at K6 K7 K8 ⊢
  clear e12 e14 e16
  have F17 : Hid (Fs (· = g + 8) ρ w ρ ((((w).alloc (.cells #[pv g] 46)).alloc (.cells #[.int .i64 oa, .int .i64 os, .bool ox, .int .i64 op, .int .i64 oq, .int .i64 on, .int .i64 ot] 51)).alloc (.cells #[pv g0] 36))) := κ (Fs.quiet b5)
  generalize (((w).alloc (.cells #[pv g] 46)).alloc (.cells #[.int .i64 oa, .int .i64 os, .bool ox, .int .i64 op, .int .i64 oq, .int .i64 on, .int .i64 ot] 51)).alloc (.cells #[pv g0] 36) = w1 at H9 H10 K8 K7 K6 F17 ⊢
  clear c2
  go_cut [5, 6] (fun s5 s6 wx => ∃ (b5 b6 : Nat), s5 = .pointer (some ⟨b5, 0, none⟩) ∧ s6 = .pointer (some ⟨b6, 0, none⟩) ∧ Hid (Below w1.heap.size w1 wx) ∧ Hid (B1 ρ wx b5 37 #[.int .i64 lk.1]) ∧ Hid (B1 ρ wx b6 2 #[.int .i64 lk.2]))
  case first =>
    have hb9 : Below w1.heap.size w1 w1.drew := (Below.refl _ _).drew
    have NW := H9.out.new
    have H18 := κ (Gt.ext H9.out hb9)
    have H19 := κ (Ac.ext H10.out hb9)
    have H20 := κ (B1.ext K8.out hb9)
    have H21 := κ (B1.ext K7.out hb9)
    have H22 := κ (B1.ext K6.out hb9)
    have BB0 := κ hb9
    let T23 : World → Prop := fun w' => w'.cell? ⟨g11, 0, none⟩ = some (.pointer (some ⟨g0, 0, none⟩)) ∧ w'.cell? ⟨g0, 0, none⟩ = some (.int .i64 G.sh) ∧ w'.cell? ⟨g0, 1, none⟩ = some (.int .i64 G.wi) ∧ w'.cell? ⟨g0, 2, none⟩ = some (.int .i64 G.ra) ∧ w'.cell? ⟨g0, 3, none⟩ = some (.int .i64 G.ta) ∧ w'.cell? ⟨g0, 4, none⟩ = some (.slice q.A G.nd.length q.c) ∧ w'.cell? ⟨g0, 5, none⟩ = some (.slice q.B G.ac.length q.d) ∧ w'.cell? ⟨g0, 6, none⟩ = some (.slice q.C G.sy.length q.f) ∧ w'.cell? ⟨g13, 0, none⟩ = some (.int .i64 oa) ∧ w'.cell? ⟨g13, 1, none⟩ = some (.int .i64 os) ∧ w'.cell? ⟨g13, 2, none⟩ = some (.bool ox) ∧ w'.cell? ⟨g13, 3, none⟩ = some (.int .i64 op) ∧ w'.cell? ⟨g13, 4, none⟩ = some (.int .i64 oq) ∧ w'.cell? ⟨g13, 5, none⟩ = some (.int .i64 on) ∧ w'.cell? ⟨g13, 6, none⟩ = some (.int .i64 ot)
    have P24 : Hid (T23 w1.drew) := κ ⟨(H20.out.1.cell 0), (Gt.c0 H18.out :), (Gt.c1 H18.out :), (Gt.c2 H18.out :), (Gt.c3 H18.out :), (Gt.c4 H18.out :), (Gt.c5 H18.out :), (Gt.c6 H18.out :), (H21.out.1.cell 0), (H21.out.1.cell 1), (H21.out.1.cell 2), (H21.out.1.cell 3), (H21.out.1.cell 4), (H21.out.1.cell 5), (H21.out.1.cell 6)⟩
    refine Ω T23 [11, 12] ?_
    generalize w1.drew = wd at H18 H19 H20 H21 H22 BB0 P24 ⊢
    refine jB 0 P24.out ?_
    refine jA 1 P24.out ?_
    refine jA 2 P24.out ?_
    refine jB 3 P24.out ?_
    refine jB 4 P24.out ?_
    refine wpL_three (m := 5) (n := 9) (l := 10) (by kernel_rfl) rfl rfl rfl ?_ ?_ ?_
    · intro K' hK
      go_simp
      refine (LOOK.out wd (κ H18.out.smb.1)).mono ?_
      rintro e w25 ⟨rfl, b26⟩
      have H27 := κ (Gt.ext H18.out b26)
      have H28 := κ (Ac.ext H19.out b26)
      have H29 := κ (B1.ext H20.out b26)
      have H30 := κ (B1.ext H21.out b26)
      have H31 := κ (B1.ext H22.out b26)
      have B32 := κ (Cel.below_step BB0.out b26)
      have P33 : Hid (T23 w25) := κ ⟨(H29.out.1.cell 0), (Gt.c0 H27.out :), (Gt.c1 H27.out :), (Gt.c2 H27.out :), (Gt.c3 H27.out :), (Gt.c4 H27.out :), (Gt.c5 H27.out :), (Gt.c6 H27.out :), (H30.out.1.cell 0), (H30.out.1.cell 1), (H30.out.1.cell 2), (H30.out.1.cell 3), (H30.out.1.cell 4), (H30.out.1.cell 5), (H30.out.1.cell 6)⟩
      refine hK.out _ _ P33.out ?_
      clear hK K'
      refine jP ?_
      refine jA 6 P33.out ?_
      refine jA 7 P33.out ?_
      refine jA 8 P33.out ?_
      refine wpL_two (m := 9) (n := 10) (by kernel_rfl) rfl rfl ?_ ?_
      · intro K' hK
        go_simp
        have b35 := β (w25) (.cells #[.int .i64 0] 37)
        have K36 := κ (Blk.fresh (w25) 37 #[.int .i64 0])
        have H39 := κ (Gt.ext H27.out b35)
        have H40 := κ (Ac.ext H28.out b35)
        have H41 := κ (B1.ext H29.out b35)
        have H42 := κ (B1.ext H30.out b35)
        have H43 := κ (B1.ext H31.out b35)
        have B44 := κ (Cel.below_step B32.out b35)
        have e38h : (w25).heap.size = (w25).heap.size := rfl
        obtain ⟨g37, e38⟩ : ∃ x, x = (w25).heap.size := ⟨_, rfl⟩
        simp only [← e38] at K36 ⊢
        have g37l : Hid (w1.heap.size ≤ g37) := κ (by have := B32.out.size; omega)
        have g37n : Hid (∀ k te cs, Blk (w25) k te cs → k ≠ g37) := κ (fun k te cs hk => by have := hk.lt; omega)
        clear e38 e38h
        generalize (w25).alloc (.cells #[.int .i64 0] 37) = w34 at H39 H40 H41 H42 H43 B44 K36  ⊢
        have P45 : Hid (T23 w34) := κ ⟨(H41.out.1.cell 0), (Gt.c0 H39.out :), (Gt.c1 H39.out :), (Gt.c2 H39.out :), (Gt.c3 H39.out :), (Gt.c4 H39.out :), (Gt.c5 H39.out :), (Gt.c6 H39.out :), (H42.out.1.cell 0), (H42.out.1.cell 1), (H42.out.1.cell 2), (H42.out.1.cell 3), (H42.out.1.cell 4), (H42.out.1.cell 5), (H42.out.1.cell 6)⟩
        refine hK.out _ _ P45.out ?_
        clear hK K'
        refine jP ?_
        refine jN 10 fun K' hK => ?_
        go_simp
        have b47 := β (w34) (.cells #[.int .i64 0] 2)
        have K48 := κ (Blk.fresh (w34) 2 #[.int .i64 0])
        have K51 := κ (Blk.below' K36.out b47)
        have H52 := κ (Gt.ext H39.out b47)
        have H53 := κ (Ac.ext H40.out b47)
        have H54 := κ (B1.ext H41.out b47)
        have H55 := κ (B1.ext H42.out b47)
        have H56 := κ (B1.ext H43.out b47)
        have B57 := κ (Cel.below_step B44.out b47)
        have e50h : (w34).heap.size = (w34).heap.size := rfl
        obtain ⟨g49, e50⟩ : ∃ x, x = (w34).heap.size := ⟨_, rfl⟩
        simp only [← e50] at K48 ⊢
        have g49l : Hid (w1.heap.size ≤ g49) := κ (by have := B44.out.size; omega)
        have g49n : Hid (∀ k te cs, Blk (w34) k te cs → k ≠ g49) := κ (fun k te cs hk => by have := hk.lt; omega)
        clear e50 e50h
        generalize (w34).alloc (.cells #[.int .i64 0] 2) = w46 at H52 H53 H54 H55 H56 B57 K48 K51 ⊢
        have P58 : Hid (T23 w46) := κ ⟨(H54.out.1.cell 0), (Gt.c0 H52.out :), (Gt.c1 H52.out :), (Gt.c2 H52.out :), (Gt.c3 H52.out :), (Gt.c4 H52.out :), (Gt.c5 H52.out :), (Gt.c6 H52.out :), (H55.out.1.cell 0), (H55.out.1.cell 1), (H55.out.1.cell 2), (H55.out.1.cell 3), (H55.out.1.cell 4), (H55.out.1.cell 5), (H55.out.1.cell 6)⟩
        have g37g49 : Hid (g37 ≠ g49) := κ (by have := g49n.out _ _ _ K36.out; exact this)
        have y0 := K51.out.cell 0
        have y1 := K51.out.thaw 0
        have y2 : ∀ u, (World.setCell w46 ⟨g37, 0, none⟩ u).cell? ⟨g49, 0, none⟩ = some (.int .i64 0) := fun u => (blk_far K48.out (Ne.symm g37g49.out) u).cell 0
        have y3 : ∀ u, (World.setCell w46 ⟨g37, 0, none⟩ u).frozen? ⟨g49, 0, none⟩ = false := fun u => (blk_far K48.out (Ne.symm g37g49.out) u).thaw 0
        simp at y0
        refine hK.out _ _ P58.out ?_
        clear hK K'
        refine jP ?_
        refine jV 11 fun K' hK => ?_
        go_simp
        refine hK.out _ _ ?_
        clear hK K'
        refine jP ?_
        refine jV 12 fun K' hK => ?_
        go_simp
        refine hK.out _ _ ?_
        clear hK K'
        refine jP ?_
        refine Δ ?_
        go_wp2_with fail
        go_meet
        exact cut2 NW B57.out K51.out K48.out g37l.out g49l.out g37g49.out
      · intro K' hK
        go_simp
        have b60 := β (w25) (.cells #[.int .i64 0] 2)
        have K61 := κ (Blk.fresh (w25) 2 #[.int .i64 0])
        have H64 := κ (Gt.ext H27.out b60)
        have H65 := κ (Ac.ext H28.out b60)
        have H66 := κ (B1.ext H29.out b60)
        have H67 := κ (B1.ext H30.out b60)
        have H68 := κ (B1.ext H31.out b60)
        have B69 := κ (Cel.below_step B32.out b60)
        have e63h : (w25).heap.size = (w25).heap.size := rfl
        obtain ⟨g62, e63⟩ : ∃ x, x = (w25).heap.size := ⟨_, rfl⟩
        simp only [← e63] at K61 ⊢
        have g62l : Hid (w1.heap.size ≤ g62) := κ (by have := B32.out.size; omega)
        have g62n : Hid (∀ k te cs, Blk (w25) k te cs → k ≠ g62) := κ (fun k te cs hk => by have := hk.lt; omega)
        clear e63 e63h
        generalize (w25).alloc (.cells #[.int .i64 0] 2) = w59 at H64 H65 H66 H67 H68 B69 K61  ⊢
        have P70 : Hid (T23 w59) := κ ⟨(H66.out.1.cell 0), (Gt.c0 H64.out :), (Gt.c1 H64.out :), (Gt.c2 H64.out :), (Gt.c3 H64.out :), (Gt.c4 H64.out :), (Gt.c5 H64.out :), (Gt.c6 H64.out :), (H67.out.1.cell 0), (H67.out.1.cell 1), (H67.out.1.cell 2), (H67.out.1.cell 3), (H67.out.1.cell 4), (H67.out.1.cell 5), (H67.out.1.cell 6)⟩
        refine hK.out _ _ P70.out ?_
        clear hK K'
        refine jP ?_
        refine jN 9 fun K' hK => ?_
        go_simp
        have b72 := β (w59) (.cells #[.int .i64 0] 37)
        have K73 := κ (Blk.fresh (w59) 37 #[.int .i64 0])
        have K76 := κ (Blk.below' K61.out b72)
        have H77 := κ (Gt.ext H64.out b72)
        have H78 := κ (Ac.ext H65.out b72)
        have H79 := κ (B1.ext H66.out b72)
        have H80 := κ (B1.ext H67.out b72)
        have H81 := κ (B1.ext H68.out b72)
        have B82 := κ (Cel.below_step B69.out b72)
        have e75h : (w59).heap.size = (w59).heap.size := rfl
        obtain ⟨g74, e75⟩ : ∃ x, x = (w59).heap.size := ⟨_, rfl⟩
        simp only [← e75] at K73 ⊢
        have g74l : Hid (w1.heap.size ≤ g74) := κ (by have := B69.out.size; omega)
        have g74n : Hid (∀ k te cs, Blk (w59) k te cs → k ≠ g74) := κ (fun k te cs hk => by have := hk.lt; omega)
        clear e75 e75h
        generalize (w59).alloc (.cells #[.int .i64 0] 37) = w71 at H77 H78 H79 H80 H81 B82 K73 K76 ⊢
        have P83 : Hid (T23 w71) := κ ⟨(H79.out.1.cell 0), (Gt.c0 H77.out :), (Gt.c1 H77.out :), (Gt.c2 H77.out :), (Gt.c3 H77.out :), (Gt.c4 H77.out :), (Gt.c5 H77.out :), (Gt.c6 H77.out :), (H80.out.1.cell 0), (H80.out.1.cell 1), (H80.out.1.cell 2), (H80.out.1.cell 3), (H80.out.1.cell 4), (H80.out.1.cell 5), (H80.out.1.cell 6)⟩
        have g74g62 : Hid (g74 ≠ g62) := κ (by have := g74n.out _ _ _ K61.out; exact fun e => this e.symm)
        have y0 := K73.out.cell 0
        have y1 := K73.out.thaw 0
        have y2 : ∀ u, (World.setCell w71 ⟨g74, 0, none⟩ u).cell? ⟨g62, 0, none⟩ = some (.int .i64 0) := fun u => (blk_far K76.out (Ne.symm g74g62.out) u).cell 0
        have y3 : ∀ u, (World.setCell w71 ⟨g74, 0, none⟩ u).frozen? ⟨g62, 0, none⟩ = false := fun u => (blk_far K76.out (Ne.symm g74g62.out) u).thaw 0
        simp at y0
        refine hK.out _ _ P83.out ?_
        clear hK K'
        refine jP ?_
        refine jV 11 fun K' hK => ?_
        go_simp
        refine hK.out _ _ ?_
        clear hK K'
        refine jP ?_
        refine jV 12 fun K' hK => ?_
        go_simp
        refine hK.out _ _ ?_
        clear hK K'
        refine jP ?_
        refine Δ ?_
        go_wp2_with fail
        go_meet
        exact cut2 NW B82.out K73.out K76.out g74l.out g62l.out g74g62.out
    · intro K' hK
      go_simp
      have b85 := β (wd) (.cells #[.int .i64 0] 37)
      have K86 := κ (Blk.fresh (wd) 37 #[.int .i64 0])
      have H89 := κ (Gt.ext H18.out b85)
      have H90 := κ (Ac.ext H19.out b85)
      have H91 := κ (B1.ext H20.out b85)
      have H92 := κ (B1.ext H21.out b85)
      have H93 := κ (B1.ext H22.out b85)
      have B94 := κ (Cel.below_step BB0.out b85)
      have e88h : (wd).heap.size = (wd).heap.size := rfl
      obtain ⟨g87, e88⟩ : ∃ x, x = (wd).heap.size := ⟨_, rfl⟩
      simp only [← e88] at K86 ⊢
      have g87l : Hid (w1.heap.size ≤ g87) := κ (by have := BB0.out.size; omega)
      have g87n : Hid (∀ k te cs, Blk (wd) k te cs → k ≠ g87) := κ (fun k te cs hk => by have := hk.lt; omega)
      clear e88 e88h
      generalize (wd).alloc (.cells #[.int .i64 0] 37) = w84 at H89 H90 H91 H92 H93 B94 K86  ⊢
      have P95 : Hid (T23 w84) := κ ⟨(H91.out.1.cell 0), (Gt.c0 H89.out :), (Gt.c1 H89.out :), (Gt.c2 H89.out :), (Gt.c3 H89.out :), (Gt.c4 H89.out :), (Gt.c5 H89.out :), (Gt.c6 H89.out :), (H92.out.1.cell 0), (H92.out.1.cell 1), (H92.out.1.cell 2), (H92.out.1.cell 3), (H92.out.1.cell 4), (H92.out.1.cell 5), (H92.out.1.cell 6)⟩
      refine hK.out _ _ P95.out ?_
      clear hK K'
      refine jP ?_
      refine wpL_two (m := 5) (n := 10) (by kernel_rfl) rfl rfl ?_ ?_
      · intro K' hK
        go_simp
        refine (LOOK.out w84 (κ H89.out.smb.1)).mono ?_
        rintro e w96 ⟨rfl, b97⟩
        have K98 := κ (Blk.below' K86.out b97)
        have H99 := κ (Gt.ext H89.out b97)
        have H100 := κ (Ac.ext H90.out b97)
        have H101 := κ (B1.ext H91.out b97)
        have H102 := κ (B1.ext H92.out b97)
        have H103 := κ (B1.ext H93.out b97)
        have B104 := κ (Cel.below_step B94.out b97)
        have P105 : Hid (T23 w96) := κ ⟨(H101.out.1.cell 0), (Gt.c0 H99.out :), (Gt.c1 H99.out :), (Gt.c2 H99.out :), (Gt.c3 H99.out :), (Gt.c4 H99.out :), (Gt.c5 H99.out :), (Gt.c6 H99.out :), (H102.out.1.cell 0), (H102.out.1.cell 1), (H102.out.1.cell 2), (H102.out.1.cell 3), (H102.out.1.cell 4), (H102.out.1.cell 5), (H102.out.1.cell 6)⟩
        refine hK.out _ _ P105.out ?_
        clear hK K'
        refine jP ?_
        refine jA 6 P105.out ?_
        refine jA 7 P105.out ?_
        refine jA 8 P105.out ?_
        refine jN 10 fun K' hK => ?_
        go_simp
        have b107 := β (w96) (.cells #[.int .i64 0] 2)
        have K108 := κ (Blk.fresh (w96) 2 #[.int .i64 0])
        have K111 := κ (Blk.below' K98.out b107)
        have H112 := κ (Gt.ext H99.out b107)
        have H113 := κ (Ac.ext H100.out b107)
        have H114 := κ (B1.ext H101.out b107)
        have H115 := κ (B1.ext H102.out b107)
        have H116 := κ (B1.ext H103.out b107)
        have B117 := κ (Cel.below_step B104.out b107)
        have e110h : (w96).heap.size = (w96).heap.size := rfl
        obtain ⟨g109, e110⟩ : ∃ x, x = (w96).heap.size := ⟨_, rfl⟩
        simp only [← e110] at K108 ⊢
        have g109l : Hid (w1.heap.size ≤ g109) := κ (by have := B104.out.size; omega)
        have g109n : Hid (∀ k te cs, Blk (w96) k te cs → k ≠ g109) := κ (fun k te cs hk => by have := hk.lt; omega)
        clear e110 e110h
        generalize (w96).alloc (.cells #[.int .i64 0] 2) = w106 at H112 H113 H114 H115 H116 B117 K108 K111 ⊢
        have P118 : Hid (T23 w106) := κ ⟨(H114.out.1.cell 0), (Gt.c0 H112.out :), (Gt.c1 H112.out :), (Gt.c2 H112.out :), (Gt.c3 H112.out :), (Gt.c4 H112.out :), (Gt.c5 H112.out :), (Gt.c6 H112.out :), (H115.out.1.cell 0), (H115.out.1.cell 1), (H115.out.1.cell 2), (H115.out.1.cell 3), (H115.out.1.cell 4), (H115.out.1.cell 5), (H115.out.1.cell 6)⟩
        have g87g109 : Hid (g87 ≠ g109) := κ (by have := g109n.out _ _ _ K98.out; exact this)
        have y0 := K111.out.cell 0
        have y1 := K111.out.thaw 0
        have y2 : ∀ u, (World.setCell w106 ⟨g87, 0, none⟩ u).cell? ⟨g109, 0, none⟩ = some (.int .i64 0) := fun u => (blk_far K108.out (Ne.symm g87g109.out) u).cell 0
        have y3 : ∀ u, (World.setCell w106 ⟨g87, 0, none⟩ u).frozen? ⟨g109, 0, none⟩ = false := fun u => (blk_far K108.out (Ne.symm g87g109.out) u).thaw 0
        simp at y0
        refine hK.out _ _ P118.out ?_
        clear hK K'
        refine jP ?_
        refine jV 11 fun K' hK => ?_
        go_simp
        refine hK.out _ _ ?_
        clear hK K'
        refine jP ?_
        refine jV 12 fun K' hK => ?_
        go_simp
        refine hK.out _ _ ?_
        clear hK K'
        refine jP ?_
        refine Δ ?_
        go_wp2_with fail
        go_meet
        exact cut2 NW B117.out K111.out K108.out g87l.out g109l.out g87g109.out
      · intro K' hK
        go_simp
        have b120 := β (w84) (.cells #[.int .i64 0] 2)
        have K121 := κ (Blk.fresh (w84) 2 #[.int .i64 0])
        have K124 := κ (Blk.below' K86.out b120)
        have H125 := κ (Gt.ext H89.out b120)
        have H126 := κ (Ac.ext H90.out b120)
        have H127 := κ (B1.ext H91.out b120)
        have H128 := κ (B1.ext H92.out b120)
        have H129 := κ (B1.ext H93.out b120)
        have B130 := κ (Cel.below_step B94.out b120)
        have e123h : (w84).heap.size = (w84).heap.size := rfl
        obtain ⟨g122, e123⟩ : ∃ x, x = (w84).heap.size := ⟨_, rfl⟩
        simp only [← e123] at K121 ⊢
        have g122l : Hid (w1.heap.size ≤ g122) := κ (by have := B94.out.size; omega)
        have g122n : Hid (∀ k te cs, Blk (w84) k te cs → k ≠ g122) := κ (fun k te cs hk => by have := hk.lt; omega)
        clear e123 e123h
        generalize (w84).alloc (.cells #[.int .i64 0] 2) = w119 at H125 H126 H127 H128 H129 B130 K121 K124 ⊢
        have P131 : Hid (T23 w119) := κ ⟨(H127.out.1.cell 0), (Gt.c0 H125.out :), (Gt.c1 H125.out :), (Gt.c2 H125.out :), (Gt.c3 H125.out :), (Gt.c4 H125.out :), (Gt.c5 H125.out :), (Gt.c6 H125.out :), (H128.out.1.cell 0), (H128.out.1.cell 1), (H128.out.1.cell 2), (H128.out.1.cell 3), (H128.out.1.cell 4), (H128.out.1.cell 5), (H128.out.1.cell 6)⟩
        have g87g122 : Hid (g87 ≠ g122) := κ (by have := g122n.out _ _ _ K86.out; exact this)
        refine hK.out _ _ P131.out ?_
        clear hK K'
        refine jP ?_
        refine jN 5 fun K' hK => ?_
        go_simp
        refine (LOOK.out w119 (κ H125.out.smb.1)).mono ?_
        rintro e w132 ⟨rfl, b133⟩
        have K134 := κ (Blk.below' K124.out b133)
        have K135 := κ (Blk.below' K121.out b133)
        have H136 := κ (Gt.ext H125.out b133)
        have H137 := κ (Ac.ext H126.out b133)
        have H138 := κ (B1.ext H127.out b133)
        have H139 := κ (B1.ext H128.out b133)
        have H140 := κ (B1.ext H129.out b133)
        have B141 := κ (Cel.below_step B130.out b133)
        have P142 : Hid (T23 w132) := κ ⟨(H138.out.1.cell 0), (Gt.c0 H136.out :), (Gt.c1 H136.out :), (Gt.c2 H136.out :), (Gt.c3 H136.out :), (Gt.c4 H136.out :), (Gt.c5 H136.out :), (Gt.c6 H136.out :), (H139.out.1.cell 0), (H139.out.1.cell 1), (H139.out.1.cell 2), (H139.out.1.cell 3), (H139.out.1.cell 4), (H139.out.1.cell 5), (H139.out.1.cell 6)⟩
        have y0 := K134.out.cell 0
        have y1 := K134.out.thaw 0
        have y2 : ∀ u, (World.setCell w132 ⟨g87, 0, none⟩ u).cell? ⟨g122, 0, none⟩ = some (.int .i64 0) := fun u => (blk_far K135.out (Ne.symm g87g122.out) u).cell 0
        have y3 : ∀ u, (World.setCell w132 ⟨g87, 0, none⟩ u).frozen? ⟨g122, 0, none⟩ = false := fun u => (blk_far K135.out (Ne.symm g87g122.out) u).thaw 0
        simp at y0
        refine hK.out _ _ P142.out ?_
        clear hK K'
        refine jP ?_
        refine jA 6 P142.out ?_
        refine jA 7 P142.out ?_
        refine jA 8 P142.out ?_
        refine jV 11 fun K' hK => ?_
        go_simp
        refine hK.out _ _ ?_
        clear hK K'
        refine jP ?_
        refine jV 12 fun K' hK => ?_
        go_simp
        refine hK.out _ _ ?_
        clear hK K'
        refine jP ?_
        refine Δ ?_
        go_wp2_with fail
        go_meet
        exact cut2 NW B141.out K134.out K135.out g87l.out g122l.out g87g122.out
    · intro K' hK
      go_simp
      have b144 := β (wd) (.cells #[.int .i64 0] 2)
      have K145 := κ (Blk.fresh (wd) 2 #[.int .i64 0])
      have H148 := κ (Gt.ext H18.out b144)
      have H149 := κ (Ac.ext H19.out b144)
      have H150 := κ (B1.ext H20.out b144)
      have H151 := κ (B1.ext H21.out b144)
      have H152 := κ (B1.ext H22.out b144)
      have B153 := κ (Cel.below_step BB0.out b144)
      have e147h : (wd).heap.size = (wd).heap.size := rfl
      obtain ⟨g146, e147⟩ : ∃ x, x = (wd).heap.size := ⟨_, rfl⟩
      simp only [← e147] at K145 ⊢
      have g146l : Hid (w1.heap.size ≤ g146) := κ (by have := BB0.out.size; omega)
      have g146n : Hid (∀ k te cs, Blk (wd) k te cs → k ≠ g146) := κ (fun k te cs hk => by have := hk.lt; omega)
      clear e147 e147h
      generalize (wd).alloc (.cells #[.int .i64 0] 2) = w143 at H148 H149 H150 H151 H152 B153 K145  ⊢
      have P154 : Hid (T23 w143) := κ ⟨(H150.out.1.cell 0), (Gt.c0 H148.out :), (Gt.c1 H148.out :), (Gt.c2 H148.out :), (Gt.c3 H148.out :), (Gt.c4 H148.out :), (Gt.c5 H148.out :), (Gt.c6 H148.out :), (H151.out.1.cell 0), (H151.out.1.cell 1), (H151.out.1.cell 2), (H151.out.1.cell 3), (H151.out.1.cell 4), (H151.out.1.cell 5), (H151.out.1.cell 6)⟩
      refine hK.out _ _ P154.out ?_
      clear hK K'
      refine jP ?_
      refine wpL_two (m := 5) (n := 9) (by kernel_rfl) rfl rfl ?_ ?_
      · intro K' hK
        go_simp
        refine (LOOK.out w143 (κ H148.out.smb.1)).mono ?_
        rintro e w155 ⟨rfl, b156⟩
        have K157 := κ (Blk.below' K145.out b156)
        have H158 := κ (Gt.ext H148.out b156)
        have H159 := κ (Ac.ext H149.out b156)
        have H160 := κ (B1.ext H150.out b156)
        have H161 := κ (B1.ext H151.out b156)
        have H162 := κ (B1.ext H152.out b156)
        have B163 := κ (Cel.below_step B153.out b156)
        have P164 : Hid (T23 w155) := κ ⟨(H160.out.1.cell 0), (Gt.c0 H158.out :), (Gt.c1 H158.out :), (Gt.c2 H158.out :), (Gt.c3 H158.out :), (Gt.c4 H158.out :), (Gt.c5 H158.out :), (Gt.c6 H158.out :), (H161.out.1.cell 0), (H161.out.1.cell 1), (H161.out.1.cell 2), (H161.out.1.cell 3), (H161.out.1.cell 4), (H161.out.1.cell 5), (H161.out.1.cell 6)⟩
        refine hK.out _ _ P164.out ?_
        clear hK K'
        refine jP ?_
        refine jA 6 P164.out ?_
        refine jA 7 P164.out ?_
        refine jA 8 P164.out ?_
        refine jN 9 fun K' hK => ?_
        go_simp
        have b166 := β (w155) (.cells #[.int .i64 0] 37)
        have K167 := κ (Blk.fresh (w155) 37 #[.int .i64 0])
        have K170 := κ (Blk.below' K157.out b166)
        have H171 := κ (Gt.ext H158.out b166)
        have H172 := κ (Ac.ext H159.out b166)
        have H173 := κ (B1.ext H160.out b166)
        have H174 := κ (B1.ext H161.out b166)
        have H175 := κ (B1.ext H162.out b166)
        have B176 := κ (Cel.below_step B163.out b166)
        have e169h : (w155).heap.size = (w155).heap.size := rfl
        obtain ⟨g168, e169⟩ : ∃ x, x = (w155).heap.size := ⟨_, rfl⟩
        simp only [← e169] at K167 ⊢
        have g168l : Hid (w1.heap.size ≤ g168) := κ (by have := B163.out.size; omega)
        have g168n : Hid (∀ k te cs, Blk (w155) k te cs → k ≠ g168) := κ (fun k te cs hk => by have := hk.lt; omega)
        clear e169 e169h
        generalize (w155).alloc (.cells #[.int .i64 0] 37) = w165 at H171 H172 H173 H174 H175 B176 K167 K170 ⊢
        have P177 : Hid (T23 w165) := κ ⟨(H173.out.1.cell 0), (Gt.c0 H171.out :), (Gt.c1 H171.out :), (Gt.c2 H171.out :), (Gt.c3 H171.out :), (Gt.c4 H171.out :), (Gt.c5 H171.out :), (Gt.c6 H171.out :), (H174.out.1.cell 0), (H174.out.1.cell 1), (H174.out.1.cell 2), (H174.out.1.cell 3), (H174.out.1.cell 4), (H174.out.1.cell 5), (H174.out.1.cell 6)⟩
        have g168g146 : Hid (g168 ≠ g146) := κ (by have := g168n.out _ _ _ K157.out; exact fun e => this e.symm)
        have y0 := K167.out.cell 0
        have y1 := K167.out.thaw 0
        have y2 : ∀ u, (World.setCell w165 ⟨g168, 0, none⟩ u).cell? ⟨g146, 0, none⟩ = some (.int .i64 0) := fun u => (blk_far K170.out (Ne.symm g168g146.out) u).cell 0
        have y3 : ∀ u, (World.setCell w165 ⟨g168, 0, none⟩ u).frozen? ⟨g146, 0, none⟩ = false := fun u => (blk_far K170.out (Ne.symm g168g146.out) u).thaw 0
        simp at y0
        refine hK.out _ _ P177.out ?_
        clear hK K'
        refine jP ?_
        refine jV 11 fun K' hK => ?_
        go_simp
        refine hK.out _ _ ?_
        clear hK K'
        refine jP ?_
        refine jV 12 fun K' hK => ?_
        go_simp
        refine hK.out _ _ ?_
        clear hK K'
        refine jP ?_
        refine Δ ?_
        go_wp2_with fail
        go_meet
        exact cut2 NW B176.out K167.out K170.out g168l.out g146l.out g168g146.out
      · intro K' hK
        go_simp
        have b179 := β (w143) (.cells #[.int .i64 0] 37)
        have K180 := κ (Blk.fresh (w143) 37 #[.int .i64 0])
        have K183 := κ (Blk.below' K145.out b179)
        have H184 := κ (Gt.ext H148.out b179)
        have H185 := κ (Ac.ext H149.out b179)
        have H186 := κ (B1.ext H150.out b179)
        have H187 := κ (B1.ext H151.out b179)
        have H188 := κ (B1.ext H152.out b179)
        have B189 := κ (Cel.below_step B153.out b179)
        have e182h : (w143).heap.size = (w143).heap.size := rfl
        obtain ⟨g181, e182⟩ : ∃ x, x = (w143).heap.size := ⟨_, rfl⟩
        simp only [← e182] at K180 ⊢
        have g181l : Hid (w1.heap.size ≤ g181) := κ (by have := B153.out.size; omega)
        have g181n : Hid (∀ k te cs, Blk (w143) k te cs → k ≠ g181) := κ (fun k te cs hk => by have := hk.lt; omega)
        clear e182 e182h
        generalize (w143).alloc (.cells #[.int .i64 0] 37) = w178 at H184 H185 H186 H187 H188 B189 K180 K183 ⊢
        have P190 : Hid (T23 w178) := κ ⟨(H186.out.1.cell 0), (Gt.c0 H184.out :), (Gt.c1 H184.out :), (Gt.c2 H184.out :), (Gt.c3 H184.out :), (Gt.c4 H184.out :), (Gt.c5 H184.out :), (Gt.c6 H184.out :), (H187.out.1.cell 0), (H187.out.1.cell 1), (H187.out.1.cell 2), (H187.out.1.cell 3), (H187.out.1.cell 4), (H187.out.1.cell 5), (H187.out.1.cell 6)⟩
        have g181g146 : Hid (g181 ≠ g146) := κ (by have := g181n.out _ _ _ K145.out; exact fun e => this e.symm)
        refine hK.out _ _ P190.out ?_
        clear hK K'
        refine jP ?_
        refine jN 5 fun K' hK => ?_
        go_simp
        refine (LOOK.out w178 (κ H184.out.smb.1)).mono ?_
        rintro e w191 ⟨rfl, b192⟩
        have K193 := κ (Blk.below' K183.out b192)
        have K194 := κ (Blk.below' K180.out b192)
        have H195 := κ (Gt.ext H184.out b192)
        have H196 := κ (Ac.ext H185.out b192)
        have H197 := κ (B1.ext H186.out b192)
        have H198 := κ (B1.ext H187.out b192)
        have H199 := κ (B1.ext H188.out b192)
        have B200 := κ (Cel.below_step B189.out b192)
        have P201 : Hid (T23 w191) := κ ⟨(H197.out.1.cell 0), (Gt.c0 H195.out :), (Gt.c1 H195.out :), (Gt.c2 H195.out :), (Gt.c3 H195.out :), (Gt.c4 H195.out :), (Gt.c5 H195.out :), (Gt.c6 H195.out :), (H198.out.1.cell 0), (H198.out.1.cell 1), (H198.out.1.cell 2), (H198.out.1.cell 3), (H198.out.1.cell 4), (H198.out.1.cell 5), (H198.out.1.cell 6)⟩
        have y0 := K194.out.cell 0
        have y1 := K194.out.thaw 0
        have y2 : ∀ u, (World.setCell w191 ⟨g181, 0, none⟩ u).cell? ⟨g146, 0, none⟩ = some (.int .i64 0) := fun u => (blk_far K193.out (Ne.symm g181g146.out) u).cell 0
        have y3 : ∀ u, (World.setCell w191 ⟨g181, 0, none⟩ u).frozen? ⟨g146, 0, none⟩ = false := fun u => (blk_far K193.out (Ne.symm g181g146.out) u).thaw 0
        simp at y0
        refine hK.out _ _ P201.out ?_
        clear hK K'
        refine jP ?_
        refine jA 6 P201.out ?_
        refine jA 7 P201.out ?_
        refine jA 8 P201.out ?_
        refine jV 11 fun K' hK => ?_
        go_simp
        refine hK.out _ _ ?_
        clear hK K'
        refine jP ?_
        refine jV 12 fun K' hK => ?_
        go_simp
        refine hK.out _ _ ?_
        clear hK K'
        refine jP ?_
        refine Δ ?_
        go_wp2_with fail
        go_meet
        exact cut2 NW B200.out K194.out K193.out g181l.out g146l.out g181g146.out
  case rest =>
    obtain ⟨b5, b6, rfl, rfl, hbx, KC, KX⟩ := hcut
    rename World => w2
    have hbx' := hbx.out
    have H202 := κ (Gt.ext H9.out hbx')
    have H203 := κ (Ac.ext H10.out hbx')
    have H204 := κ (B1.ext K8.out hbx')
    have H205 := κ (B1.ext K7.out hbx')
    have H206 := κ (B1.ext K6.out hbx')
    have F207 := κ (F17.out.trans (Fs.quiet hbx'))
    have k5 := KC.out.1.cell 0
    simp at k5
    by_cases hl0 : lk.1 = 0
    case neg =>
      have t0 : (lk.1 == 0) = false := by simpa using hl0
      go_upto_region 4 with fail
      have b208 : Below w2.heap.size w2 w2.drew := (Below.refl _ _).drew
      have H209 := κ (Gt.ext H202.out b208)
      have H210 := κ (Ac.ext H203.out b208)
      have H211 := κ (B1.ext H204.out b208)
      have H212 := κ (B1.ext H205.out b208)
      have H213 := κ (B1.ext H206.out b208)
      have H214 := κ (B1.ext KC.out b208)
      have H215 := κ (B1.ext KX.out b208)
      have F216 := κ (F207.out.trans (Fs.quiet b208))
      let T217 : World → Prop := fun w' => w'.cell? ⟨g15, 0, none⟩ = some (.pointer (some ⟨g, 0, none⟩)) ∧ w'.cell? ⟨g, 2, none⟩ = some (.int .i64 a.place)
      have P218 : Hid (T217 w2.drew) := κ ⟨(H213.out.1.cell 0), (Ac.c2 H210.out :)⟩
      refine Ω T217 [] ?_
      generalize w2.drew = wd at H209 H210 H211 H212 H213 H214 H215 F216 P218 ⊢
      refine jB 0 P218.out ?_
      refine jB 1 P218.out ?_
      refine jB 2 P218.out ?_
      refine jA 3 P218.out ?_
      refine jA 4 P218.out ?_
      refine jB 5 P218.out ?_
      refine jA 6 P218.out ?_
      refine jN 7 fun K' hK => ?_
      go_simp
      refine (look_acc g0 r.gp H209.out.new a.place (.ord1 lk.1) 104 #[pv b5, pv g15] ⟨_, _, rfl, H214.out, H213.out⟩).mono ?_
      rintro e w221 ⟨k219, cap220, rfl, i222, b223⟩
      have H224 := κ (Gt.ext H209.out b223)
      have H225 := κ (Ac.ext H210.out b223)
      have H226 := κ (B1.ext H211.out b223)
      have H227 := κ (B1.ext H212.out b223)
      have H228 := κ (B1.ext H213.out b223)
      have H229 := κ (B1.ext H214.out b223)
      have H230 := κ (B1.ext H215.out b223)
      have i222 := κ i222
      have F231 := κ (F216.out.trans (Fs.quiet b223))
      have P232 : Hid (T217 w221) := κ ⟨(H228.out.1.cell 0), (Ac.c2 H225.out :)⟩
      refine hK.out _ _ P232.out ?_
      clear hK K'
      refine jP ?_
      refine jN 8 fun K' hK => ?_
      go_simp
      have b234 := β (w221) (.cells #[(.func (.func k219) #[] cap220)] 126)
      have K235 := κ (Blk.fresh (w221) 126 #[(.func (.func k219) #[] cap220)])
      have H238 := κ (Gt.ext H224.out b234)
      have H239 := κ (Ac.ext H225.out b234)
      have H240 := κ (B1.ext H226.out b234)
      have H241 := κ (B1.ext H227.out b234)
      have H242 := κ (B1.ext H228.out b234)
      have H243 := κ (B1.ext H229.out b234)
      have H244 := κ (B1.ext H230.out b234)
      have L245 : Hid (Are (IsAcc ρ ((w221).alloc (.cells #[(.func (.func k219) #[] cap220)] 126)) g0 g r.gp) [.one (.load 0 (.look a.place (.ord1 lk.1)))] [(.func (.func k219) #[] cap220)]) := κ (.cons (IsAcc.ext i222.out b234) (.nil))
      obtain ⟨g236, e237⟩ : ∃ x, x = w221.heap.size := ⟨_, rfl⟩
      simp only [← e237] at K235 ⊢
      clear e237
      have F246 := κ (F231.out.trans (Fs.quiet b234))
      generalize (w221).alloc (.cells #[(.func (.func k219) #[] cap220)] 126) = w233 at H238 H239 H240 H241 H242 H243 H244 L245 K235 F246 ⊢
      have P247 : Hid (T217 w233) := κ ⟨(H242.out.1.cell 0), (Ac.c2 H239.out :)⟩
      refine hK.out _ _ P247.out ?_
      clear hK K'
      refine jP ?_
      refine jN 9 fun K' hK => ?_
      go_simp
      refine (then_any base ρ q r g0 g g236 1 G a _ _ w233 H238 H239 K235 L245 (κ rfl) (by decide) (by omega)).mono ?_
      rintro e w250 ⟨rfl, ρ248, r249, f251, H252, H253, p254⟩
      have H255 := κ (B1.fs H240.out f251 (by omega))
      have H256 := κ (B1.fs H241.out f251 (by omega))
      have H257 := κ (B1.fs H242.out f251 (by omega))
      have H258 := κ (B1.fs H243.out f251 (by omega))
      have H259 := κ (B1.fs H244.out f251 (by omega))
      have H252 := κ H252
      have H253 := κ H253
      have p254 := κ p254
      have F260 := κ (Fs.trans F246.out f251)
      have P261 : Hid (T217 w250) := κ ⟨(H257.out.1.cell 0), (Ac.c2 H253.out :)⟩
      refine hK.out _ _ P261.out ?_
      clear hK K'
      refine jP ?_
      refine Δ ?_
      go_wp2_with fail
      exact bodyPost_ret (v := .tuple #[]) (by simp [results, Tryz.results76, go_sem]) rfl (by rw [ordA_f HLK.out hl0]; exact ⟨rfl, ρ248, r249, F260.out, H252.out, H253.out⟩)
    case pos =>
      have hin := lok_in (HLK.out ▸ hl0 : (lokF G.ac G.sy oa os op oq on ot).1 = 0)
      obtain ⟨i, rfl⟩ : ∃ i : Nat, oa = i := ⟨oa.toNat, by omega⟩
      have hi : i < G.ac.length := by omega
      have hpl1 := hpl (gI G.ac i)
      have t0 : (lk.1 == 0) = true := by simpa using hl0
      obtain ⟨sn, hsn⟩ : ∃ x, x = shaF G.sh G.ac.length (i : Int) := ⟨_, rfl⟩
      have HSN := κ hsn
      have hs0 : 0 ≤ sn ∧ sn ≤ 1000 := by rw [hsn]; unfold shaF; rw [if_neg (fun h => h.elim (fun h => by omega) (fun h => by rw [Tre.inR_t hin.1 hin.2] at h; cases h))]; have := Int.emod_nonneg (i : Int) (b := G.sh) (by omega); have := Int.emod_lt_of_pos (i : Int) (b := G.sh) (by omega); omega
      have SHARD := fun (W : World) => Rul3.shard_any G.sh G.wi G.ra G.ta q.A q.B q.C q.c q.d q.f G.nd G.ac G.sy (i : Int) W (by unfold inI; omega) (by omega)
      rw [← hsn] at SHARD
      have SHARD := κ SHARD
      clear hsn hin
      go_upto_region 5 with fail
      go_cut [7] (fun s7 wx => ∃ (b7 : Nat), s7 = .pointer (some ⟨b7, 0, none⟩) ∧ Hid (Below w2.heap.size w2 wx) ∧ Hid (B1 ρ wx b7 3 #[.int .i64 sn]))
      case first =>
        have hb9 : Below w2.heap.size w2 w2.drew := (Below.refl _ _).drew
        have NW := H202.out.new
        have H262 := κ (Gt.ext H202.out hb9)
        have H263 := κ (Ac.ext H203.out hb9)
        have H264 := κ (B1.ext H204.out hb9)
        have H265 := κ (B1.ext H205.out hb9)
        have H266 := κ (B1.ext H206.out hb9)
        have H267 := κ (B1.ext KC.out hb9)
        have H268 := κ (B1.ext KX.out hb9)
        have BB0 := κ hb9
        let T269 : World → Prop := fun w' => w'.cell? ⟨g11, 0, none⟩ = some (.pointer (some ⟨g0, 0, none⟩)) ∧ w'.cell? ⟨g0, 0, none⟩ = some (.int .i64 G.sh) ∧ w'.cell? ⟨g0, 1, none⟩ = some (.int .i64 G.wi) ∧ w'.cell? ⟨g0, 2, none⟩ = some (.int .i64 G.ra) ∧ w'.cell? ⟨g0, 3, none⟩ = some (.int .i64 G.ta) ∧ w'.cell? ⟨g0, 4, none⟩ = some (.slice q.A G.nd.length q.c) ∧ w'.cell? ⟨g0, 5, none⟩ = some (.slice q.B G.ac.length q.d) ∧ w'.cell? ⟨g0, 6, none⟩ = some (.slice q.C G.sy.length q.f) ∧ w'.cell? ⟨g13, 0, none⟩ = some (.int .i64 (i : Int))
        have P270 : Hid (T269 w2.drew) := κ ⟨(H264.out.1.cell 0), (Gt.c0 H262.out :), (Gt.c1 H262.out :), (Gt.c2 H262.out :), (Gt.c3 H262.out :), (Gt.c4 H262.out :), (Gt.c5 H262.out :), (Gt.c6 H262.out :), (H265.out.1.cell 0)⟩
        refine Ω T269 [8] ?_
        generalize w2.drew = wd at H262 H263 H264 H265 H266 H267 H268 BB0 P270 ⊢
        refine jB 0 P270.out ?_
        refine jA 1 P270.out ?_
        refine jA 2 P270.out ?_
        refine jB 3 P270.out ?_
        refine jA 4 P270.out ?_
        refine jB 5 P270.out ?_
        refine wpL_two (m := 6) (n := 7) (by kernel_rfl) rfl rfl ?_ ?_
        · intro K' hK
          go_simp
          refine (SHARD.out wd).mono ?_
          rintro e w271 ⟨rfl, b272⟩
          have H273 := κ (Gt.ext H262.out b272)
          have H274 := κ (Ac.ext H263.out b272)
          have H275 := κ (B1.ext H264.out b272)
          have H276 := κ (B1.ext H265.out b272)
          have H277 := κ (B1.ext H266.out b272)
          have H278 := κ (B1.ext H267.out b272)
          have H279 := κ (B1.ext H268.out b272)
          have B280 := κ (Cel.below_step BB0.out b272)
          have P281 : Hid (T269 w271) := κ ⟨(H275.out.1.cell 0), (Gt.c0 H273.out :), (Gt.c1 H273.out :), (Gt.c2 H273.out :), (Gt.c3 H273.out :), (Gt.c4 H273.out :), (Gt.c5 H273.out :), (Gt.c6 H273.out :), (H276.out.1.cell 0)⟩
          refine hK.out _ _ P281.out ?_
          clear hK K'
          refine jP ?_
          refine jN 7 fun K' hK => ?_
          go_simp
          have b283 := β (w271) (.cells #[.int .i64 0] 3)
          have K284 := κ (Blk.fresh (w271) 3 #[.int .i64 0])
          have H287 := κ (Gt.ext H273.out b283)
          have H288 := κ (Ac.ext H274.out b283)
          have H289 := κ (B1.ext H275.out b283)
          have H290 := κ (B1.ext H276.out b283)
          have H291 := κ (B1.ext H277.out b283)
          have H292 := κ (B1.ext H278.out b283)
          have H293 := κ (B1.ext H279.out b283)
          have B294 := κ (Cel.below_step B280.out b283)
          have e286h : (w271).heap.size = (w271).heap.size := rfl
          obtain ⟨g285, e286⟩ : ∃ x, x = (w271).heap.size := ⟨_, rfl⟩
          simp only [← e286] at K284 ⊢
          have g285l : Hid (w2.heap.size ≤ g285) := κ (by have := B280.out.size; omega)
          have g285n : Hid (∀ k te cs, Blk (w271) k te cs → k ≠ g285) := κ (fun k te cs hk => by have := hk.lt; omega)
          clear e286 e286h
          generalize (w271).alloc (.cells #[.int .i64 0] 3) = w282 at H287 H288 H289 H290 H291 H292 H293 B294 K284  ⊢
          have P295 : Hid (T269 w282) := κ ⟨(H289.out.1.cell 0), (Gt.c0 H287.out :), (Gt.c1 H287.out :), (Gt.c2 H287.out :), (Gt.c3 H287.out :), (Gt.c4 H287.out :), (Gt.c5 H287.out :), (Gt.c6 H287.out :), (H290.out.1.cell 0)⟩
          have y0 := K284.out.cell 0
          have y1 := K284.out.thaw 0
          simp at y0
          refine hK.out _ _ P295.out ?_
          clear hK K'
          refine jP ?_
          refine jV 8 fun K' hK => ?_
          go_simp
          refine hK.out _ _ ?_
          clear hK K'
          refine jP ?_
          refine Δ ?_
          go_wp2_with fail
          go_meet
          exact cut1 NW B294.out K284.out g285l.out
        · intro K' hK
          go_simp
          have b297 := β (wd) (.cells #[.int .i64 0] 3)
          have K298 := κ (Blk.fresh (wd) 3 #[.int .i64 0])
          have H301 := κ (Gt.ext H262.out b297)
          have H302 := κ (Ac.ext H263.out b297)
          have H303 := κ (B1.ext H264.out b297)
          have H304 := κ (B1.ext H265.out b297)
          have H305 := κ (B1.ext H266.out b297)
          have H306 := κ (B1.ext H267.out b297)
          have H307 := κ (B1.ext H268.out b297)
          have B308 := κ (Cel.below_step BB0.out b297)
          have e300h : (wd).heap.size = (wd).heap.size := rfl
          obtain ⟨g299, e300⟩ : ∃ x, x = (wd).heap.size := ⟨_, rfl⟩
          simp only [← e300] at K298 ⊢
          have g299l : Hid (w2.heap.size ≤ g299) := κ (by have := BB0.out.size; omega)
          have g299n : Hid (∀ k te cs, Blk (wd) k te cs → k ≠ g299) := κ (fun k te cs hk => by have := hk.lt; omega)
          clear e300 e300h
          generalize (wd).alloc (.cells #[.int .i64 0] 3) = w296 at H301 H302 H303 H304 H305 H306 H307 B308 K298  ⊢
          have P309 : Hid (T269 w296) := κ ⟨(H303.out.1.cell 0), (Gt.c0 H301.out :), (Gt.c1 H301.out :), (Gt.c2 H301.out :), (Gt.c3 H301.out :), (Gt.c4 H301.out :), (Gt.c5 H301.out :), (Gt.c6 H301.out :), (H304.out.1.cell 0)⟩
          refine hK.out _ _ P309.out ?_
          clear hK K'
          refine jP ?_
          refine jN 6 fun K' hK => ?_
          go_simp
          refine (SHARD.out w296).mono ?_
          rintro e w310 ⟨rfl, b311⟩
          have K312 := κ (Blk.below' K298.out b311)
          have H313 := κ (Gt.ext H301.out b311)
          have H314 := κ (Ac.ext H302.out b311)
          have H315 := κ (B1.ext H303.out b311)
          have H316 := κ (B1.ext H304.out b311)
          have H317 := κ (B1.ext H305.out b311)
          have H318 := κ (B1.ext H306.out b311)
          have H319 := κ (B1.ext H307.out b311)
          have B320 := κ (Cel.below_step B308.out b311)
          have P321 : Hid (T269 w310) := κ ⟨(H315.out.1.cell 0), (Gt.c0 H313.out :), (Gt.c1 H313.out :), (Gt.c2 H313.out :), (Gt.c3 H313.out :), (Gt.c4 H313.out :), (Gt.c5 H313.out :), (Gt.c6 H313.out :), (H316.out.1.cell 0)⟩
          have y0 := K312.out.cell 0
          have y1 := K312.out.thaw 0
          simp at y0
          refine hK.out _ _ P321.out ?_
          clear hK K'
          refine jP ?_
          refine jV 8 fun K' hK => ?_
          go_simp
          refine hK.out _ _ ?_
          clear hK K'
          refine jP ?_
          refine Δ ?_
          go_wp2_with fail
          go_meet
          exact cut1 NW B320.out K312.out g299l.out
      case rest =>
        obtain ⟨b7, rfl, hby, KS⟩ := hcut
        rename World => w3
        have hby' := hby.out
        clear k5
        have H322 := κ (Gt.ext H202.out hby')
        have H323 := κ (Ac.ext H203.out hby')
        have H324 := κ (B1.ext H204.out hby')
        have H325 := κ (B1.ext H205.out hby')
        have H326 := κ (B1.ext H206.out hby')
        have H327 := κ (B1.ext KC.out hby')
        have H328 := κ (B1.ext KX.out hby')
        have F329 := κ (F207.out.trans (Fs.quiet hby'))
        have k1 := H324.out.1.cell 0
        have k2 := H325.out.1.cell 0
        simp at k1 k2
        go_wp2_with fail
        refine (purseOf_any base ρ q g0 i G w3 H322 hi (by omega) (by omega) HWN (HLF.out i hi)).mono ?_
        rintro e w4 ⟨gp, Apx, cp, An, cn, gu, B, rfl, u1, u2, u3, u4, u5, u6, u7, u8, hb4⟩
        obtain ⟨ρ4, r4, f4, G4, A4, p4⟩ := Ac_purse H322.out H323.out hgp (by omega) u1 u2 u3 u4 u5 u6 u7 u8 hb4
        have G4 := κ G4
        have A4 := κ A4
        have p4 := κ p4
        clear u1 u2 u3 u4 u5 u6 u7 u8 k1 k2
        have H330 := κ (B1.fs H324.out f4 id)
        have H331 := κ (B1.fs H325.out f4 id)
        have H332 := κ (B1.fs H326.out f4 id)
        have H333 := κ (B1.fs H327.out f4 id)
        have H334 := κ (B1.fs H328.out f4 id)
        have H335 := κ (B1.fs KS.out f4 id)
        have F336 := κ (Fs.trans F329.out (f4.mono fun _ h => h.elim))
        clear f4 hb4
        have hb5 := β w4 (.cells #[pv gp] 184)
        have KP : Hid (B1 ρ4 (w4.alloc (.cells #[pv gp] 184)) w4.heap.size 184 #[pv gp]) := κ (B1.mk G4.out.new rfl)
        have H337 := κ (Gt.ext G4.out hb5)
        have H338 := κ (Ac.ext A4.out hb5)
        have H339 := κ (B1.ext H330.out hb5)
        have H340 := κ (B1.ext H331.out hb5)
        have H341 := κ (B1.ext H332.out hb5)
        have H342 := κ (B1.ext H333.out hb5)
        have H343 := κ (B1.ext H334.out hb5)
        have H344 := κ (B1.ext H335.out hb5)
        have F345 := κ (F336.out.trans (Fs.quiet hb5))
        go_upto_region 7 with fail
        obtain ⟨b8, hb8⟩ : ∃ x, x = w4.heap.size := ⟨_, rfl⟩
        simp only [← hb8] at KP ⊢
        clear hb8 hb5
        generalize (w4.alloc (.cells #[pv gp] 184)) = w5 at H337 H338 H339 H340 H341 H342 H343 H344 F345 KP ⊢
        have b346 : Below w5.heap.size w5 w5.drew := (Below.refl _ _).drew
        have H347 := κ (Gt.ext H337.out b346)
        have H348 := κ (Ac.ext H338.out b346)
        have H349 := κ (B1.ext H339.out b346)
        have H350 := κ (B1.ext H340.out b346)
        have H351 := κ (B1.ext H341.out b346)
        have H352 := κ (B1.ext H342.out b346)
        have H353 := κ (B1.ext H343.out b346)
        have H354 := κ (B1.ext H344.out b346)
        have H355 := κ (B1.ext KP.out b346)
        have F356 := κ (F345.out.trans (Fs.quiet b346))
        let T357 : World → Prop := fun w' => w'.cell? ⟨g15, 0, none⟩ = some (.pointer (some ⟨g, 0, none⟩)) ∧ w'.cell? ⟨b7, 0, none⟩ = some (.int .i64 sn)
        have P358 : Hid (T357 w5.drew) := κ ⟨(H351.out.1.cell 0), (H354.out.1.cell 0)⟩
        refine Ω T357 [] ?_
        generalize w5.drew = wd at H347 H348 H349 H350 H351 H352 H353 H354 H355 F356 P358 ⊢
        refine jB 0 P358.out ?_
        refine jB 1 P358.out ?_
        refine jB 2 P358.out ?_
        refine jN 3 fun K' hK => ?_
        go_simp
        refine (shardLatch_any sn wd hs0.1 hs0.2).mono ?_
        rintro e w9 ⟨rfl, rfl⟩
        refine hK.out _ _ P358.out ?_
        clear hK K'
        refine jP ?_
        refine jN 4 fun K' hK => ?_
        go_simp
        refine (take_acc g0 r4.gp H347.out.new (2 + sn)).mono ?_
        rintro e w361 ⟨k359, cap360, rfl, i362, b363⟩
        have H364 := κ (Gt.ext H347.out b363)
        have H365 := κ (Ac.ext H348.out b363)
        have H366 := κ (B1.ext H349.out b363)
        have H367 := κ (B1.ext H350.out b363)
        have H368 := κ (B1.ext H351.out b363)
        have H369 := κ (B1.ext H352.out b363)
        have H370 := κ (B1.ext H353.out b363)
        have H371 := κ (B1.ext H354.out b363)
        have H372 := κ (B1.ext H355.out b363)
        have i362 := κ i362
        have F373 := κ (F356.out.trans (Fs.quiet b363))
        have P374 : Hid (T357 w361) := κ ⟨(H368.out.1.cell 0), (H371.out.1.cell 0)⟩
        refine hK.out _ _ P374.out ?_
        clear hK K'
        refine jP ?_
        refine jN 5 fun K' hK => ?_
        go_simp
        have b376 := β (w361) (.cells #[(.func (.func k359) #[] cap360)] 126)
        have K377 := κ (Blk.fresh (w361) 126 #[(.func (.func k359) #[] cap360)])
        have H380 := κ (Gt.ext H364.out b376)
        have H381 := κ (Ac.ext H365.out b376)
        have H382 := κ (B1.ext H366.out b376)
        have H383 := κ (B1.ext H367.out b376)
        have H384 := κ (B1.ext H368.out b376)
        have H385 := κ (B1.ext H369.out b376)
        have H386 := κ (B1.ext H370.out b376)
        have H387 := κ (B1.ext H371.out b376)
        have H388 := κ (B1.ext H372.out b376)
        have L389 : Hid (Are (IsAcc ρ4 ((w361).alloc (.cells #[(.func (.func k359) #[] cap360)] 126)) g0 g r4.gp) [.one (.take (shL sn))] [(.func (.func k359) #[] cap360)]) := κ (.cons (IsAcc.ext i362.out b376) (.nil))
        obtain ⟨g378, e379⟩ : ∃ x, x = w361.heap.size := ⟨_, rfl⟩
        simp only [← e379] at K377 ⊢
        clear e379
        have F390 := κ (F373.out.trans (Fs.quiet b376))
        generalize (w361).alloc (.cells #[(.func (.func k359) #[] cap360)] 126) = w375 at H380 H381 H382 H383 H384 H385 H386 H387 H388 L389 K377 F390 ⊢
        have P391 : Hid (T357 w375) := κ ⟨(H384.out.1.cell 0), (H387.out.1.cell 0)⟩
        refine hK.out _ _ P391.out ?_
        clear hK K'
        refine jP ?_
        refine jN 6 fun K' hK => ?_
        go_simp
        refine (then_any base ρ4 q r4 g0 g g378 1 G ({ a with pu := purseF G i } : Ap) _ _ w375 H380 H381 K377 L389 (κ rfl) (by decide) (by simp [thenA, purseF]; omega)).mono ?_
        rintro e w394 ⟨rfl, ρ392, r393, f395, H396, H397, p398⟩
        have H399 := κ (B1.fs H382.out f395 (by omega))
        have H400 := κ (B1.fs H383.out f395 (by omega))
        have H401 := κ (B1.fs H384.out f395 (by omega))
        have H402 := κ (B1.fs H385.out f395 (by omega))
        have H403 := κ (B1.fs H386.out f395 (by omega))
        have H404 := κ (B1.fs H387.out f395 (by omega))
        have H405 := κ (B1.fs H388.out f395 (by omega))
        have H396 := κ H396
        have H397 := κ H397
        have p398 := κ p398
        have F406 := κ (Fs.trans F390.out f395)
        have P407 : Hid (T357 w394) := κ ⟨(H401.out.1.cell 0), (H404.out.1.cell 0)⟩
        refine hK.out _ _ P407.out ?_
        clear hK K'
        refine jP ?_
        refine Δ ?_
        have gp408 := κ (p398.out.trans p4.out)
        have k1 := H401.out.1.cell 0
        have k2 := H405.out.1.cell 0
        simp at k1 k2
        go_wp2_with fail
        refine (takeNodes_any base ρ392 q r393 g0 g gp G _ w394 H396 H397 gp408.out HPI (by simp [thenA, purseF]; omega) (by simp [thenA, purseF]; omega) (by omega) (by omega)).mono ?_
        rintro e w409 ⟨rfl, ρ410, r411, f412, H413, H414, p415⟩
        have H416 := κ (B1.fs H399.out f412 (by omega))
        have H417 := κ (B1.fs H400.out f412 (by omega))
        have H418 := κ (B1.fs H401.out f412 (by omega))
        have H419 := κ (B1.fs H402.out f412 (by omega))
        have H420 := κ (B1.fs H403.out f412 (by omega))
        have H421 := κ (B1.fs H404.out f412 (by omega))
        have H422 := κ (B1.fs H405.out f412 (by omega))
        have H413 := κ H413
        have H414 := κ H414
        have p415 := κ p415
        have F423 := κ (Fs.trans F406.out f412)
        clear f412 k1 k2
        have gp424 := κ (p415.out.trans gp408.out)
        have k1 := H418.out.1.cell 0
        have k2 := H422.out.1.cell 0
        simp at k1 k2
        go_wp2_with fail
        refine (seeUsed_any base ρ410 q r411 g0 g gp G _ w409 H413 H414 gp424.out HPI (by simp [thenA, purseF]; omega) (by simp [thenA, purseF]; omega) (by omega) (by omega)).mono ?_
        rintro e w425 ⟨rfl, ρ426, r427, f428, H429, H430, p431⟩
        have H432 := κ (B1.fs H416.out f428 (by omega))
        have H433 := κ (B1.fs H417.out f428 (by omega))
        have H434 := κ (B1.fs H418.out f428 (by omega))
        have H435 := κ (B1.fs H419.out f428 (by omega))
        have H436 := κ (B1.fs H420.out f428 (by omega))
        have H437 := κ (B1.fs H421.out f428 (by omega))
        have H438 := κ (B1.fs H422.out f428 (by omega))
        have H429 := κ H429
        have H430 := κ H430
        have p431 := κ p431
        have F439 := κ (Fs.trans F423.out f428)
        clear f428 k1 k2
        have gp440 := κ (p431.out.trans gp424.out)
        have k1 := H434.out.1.cell 0
        have k2 := H438.out.1.cell 0
        simp at k1 k2
        go_wp2_with fail
        refine (seeCaps_any base ρ426 q r427 g0 g gp G _ w425 H429 H430 gp440.out HPI (by simp [thenA, purseF]; omega) (by simp [thenA, purseF]; omega) (by omega) (by omega)).mono ?_
        rintro e w441 ⟨rfl, ρ442, r443, f444, H445, H446, p447⟩
        have H448 := κ (B1.fs H432.out f444 (by omega))
        have H449 := κ (B1.fs H433.out f444 (by omega))
        have H450 := κ (B1.fs H434.out f444 (by omega))
        have H451 := κ (B1.fs H435.out f444 (by omega))
        have H452 := κ (B1.fs H436.out f444 (by omega))
        have H453 := κ (B1.fs H437.out f444 (by omega))
        have H454 := κ (B1.fs H438.out f444 (by omega))
        have H445 := κ H445
        have H446 := κ H446
        have p447 := κ p447
        have F455 := κ (Fs.trans F439.out f444)
        clear f444 k1 k2
        have gp456 := κ (p447.out.trans gp440.out)
        go_upto_region 11 with fail
        have b457 : Below w441.heap.size w441 w441.drew := (Below.refl _ _).drew
        have H458 := κ (Gt.ext H445.out b457)
        have H459 := κ (Ac.ext H446.out b457)
        have H460 := κ (B1.ext H448.out b457)
        have H461 := κ (B1.ext H449.out b457)
        have H462 := κ (B1.ext H450.out b457)
        have H463 := κ (B1.ext H451.out b457)
        have H464 := κ (B1.ext H452.out b457)
        have H465 := κ (B1.ext H453.out b457)
        have H466 := κ (B1.ext H454.out b457)
        have F467 := κ (F455.out.trans (Fs.quiet b457))
        let T468 : World → Prop := fun w' => w'.cell? ⟨g15, 0, none⟩ = some (.pointer (some ⟨g, 0, none⟩)) ∧ w'.cell? ⟨g, 2, none⟩ = some (.int .i64 (thenA (thenA (thenA (thenA ({ a with pu := purseF G i } : Ap) [.one (.take (shL sn))]) ((purseF G i).path.map fun n => .one (.take (ndL G n)))) ((purseF G i).path.map fun n => .one (.load (usedW n) (.used n)))) ((purseF G i).path.map fun n => .one (.load (capW n) (.caps n)))).place)
        have P469 : Hid (T468 w441.drew) := κ ⟨(H462.out.1.cell 0), (Ac.c2 H459.out :)⟩
        refine Ω T468 [] ?_
        generalize w441.drew = wd at H458 H459 H460 H461 H462 H463 H464 H465 H466 F467 P469 ⊢
        refine jB 0 P469.out ?_
        refine jB 1 P469.out ?_
        refine jB 2 P469.out ?_
        refine jA 3 P469.out ?_
        refine jA 4 P469.out ?_
        refine jB 5 P469.out ?_
        refine jA 6 P469.out ?_
        refine jN 7 fun K' hK => ?_
        go_simp
        refine (look_acc g0 r443.gp H458.out.new a.place (.ord2 ⟨(i : Int), os, ox, op, oq, on, ot⟩ lk.2 sn) 113 #[pv g11, pv g13, pv b6, pv b8, pv g15, pv b7] ⟨_, _, _, _, _, _, _, rfl, H460.out, H461.out, H464.out, ⟨gp456.out, H466.out⟩, H462.out, H465.out⟩).mono ?_
        rintro e w472 ⟨k470, cap471, rfl, i473, b474⟩
        have H475 := κ (Gt.ext H458.out b474)
        have H476 := κ (Ac.ext H459.out b474)
        have H477 := κ (B1.ext H460.out b474)
        have H478 := κ (B1.ext H461.out b474)
        have H479 := κ (B1.ext H462.out b474)
        have H480 := κ (B1.ext H463.out b474)
        have H481 := κ (B1.ext H464.out b474)
        have H482 := κ (B1.ext H465.out b474)
        have H483 := κ (B1.ext H466.out b474)
        have i473 := κ i473
        have F484 := κ (F467.out.trans (Fs.quiet b474))
        have P485 : Hid (T468 w472) := κ ⟨(H479.out.1.cell 0), (Ac.c2 H476.out :)⟩
        refine hK.out _ _ P485.out ?_
        clear hK K'
        refine jP ?_
        refine jN 8 fun K' hK => ?_
        go_simp
        have b487 := β (w472) (.cells #[(.func (.func k470) #[] cap471)] 126)
        have K488 := κ (Blk.fresh (w472) 126 #[(.func (.func k470) #[] cap471)])
        have H491 := κ (Gt.ext H475.out b487)
        have H492 := κ (Ac.ext H476.out b487)
        have H493 := κ (B1.ext H477.out b487)
        have H494 := κ (B1.ext H478.out b487)
        have H495 := κ (B1.ext H479.out b487)
        have H496 := κ (B1.ext H480.out b487)
        have H497 := κ (B1.ext H481.out b487)
        have H498 := κ (B1.ext H482.out b487)
        have H499 := κ (B1.ext H483.out b487)
        have L500 : Hid (Are (IsAcc ρ442 ((w472).alloc (.cells #[(.func (.func k470) #[] cap471)] 126)) g0 g r443.gp) [.one (.load 0 (.look a.place (.ord2 ⟨(i : Int), os, ox, op, oq, on, ot⟩ lk.2 sn)))] [(.func (.func k470) #[] cap471)]) := κ (.cons (IsAcc.ext i473.out b487) (.nil))
        obtain ⟨g489, e490⟩ : ∃ x, x = w472.heap.size := ⟨_, rfl⟩
        simp only [← e490] at K488 ⊢
        clear e490
        have F501 := κ (F484.out.trans (Fs.quiet b487))
        generalize (w472).alloc (.cells #[(.func (.func k470) #[] cap471)] 126) = w486 at H491 H492 H493 H494 H495 H496 H497 H498 H499 L500 K488 F501 ⊢
        have P502 : Hid (T468 w486) := κ ⟨(H495.out.1.cell 0), (Ac.c2 H492.out :)⟩
        refine hK.out _ _ P502.out ?_
        clear hK K'
        refine jP ?_
        refine jN 9 fun K' hK => ?_
        go_simp
        refine (then_any base ρ442 q r443 g0 g g489 1 G (thenA (thenA (thenA (thenA ({ a with pu := purseF G i } : Ap) [.one (.take (shL sn))]) ((purseF G i).path.map fun n => .one (.take (ndL G n)))) ((purseF G i).path.map fun n => .one (.load (usedW n) (.used n)))) ((purseF G i).path.map fun n => .one (.load (capW n) (.caps n)))) _ _ w486 H491 H492 K488 L500 (κ rfl) (by decide) (by simp [thenA, purseF]; omega)).mono ?_
        rintro e w505 ⟨rfl, ρ503, r504, f506, H507, H508, p509⟩
        have H510 := κ (B1.fs H493.out f506 (by omega))
        have H511 := κ (B1.fs H494.out f506 (by omega))
        have H512 := κ (B1.fs H495.out f506 (by omega))
        have H513 := κ (B1.fs H496.out f506 (by omega))
        have H514 := κ (B1.fs H497.out f506 (by omega))
        have H515 := κ (B1.fs H498.out f506 (by omega))
        have H516 := κ (B1.fs H499.out f506 (by omega))
        have H507 := κ H507
        have H508 := κ H508
        have p509 := κ p509
        have F517 := κ (Fs.trans F501.out f506)
        have P518 : Hid (T468 w505) := κ ⟨(H512.out.1.cell 0), (Ac.c2 H508.out :)⟩
        refine hK.out _ _ P518.out ?_
        clear hK K'
        refine jP ?_
        refine Δ ?_
        go_wp2_with fail
        exact bodyPost_ret (v := .tuple #[]) (by simp [results, Tryz.results76, go_sem]) rfl (by rw [ordA_t HLK.out hl0 HSN.out]; exact ⟨rfl, ρ503, r504, F517.out, H507.out, H508.out⟩)
end Gor
end Go.Proofs.YtaeddnjjeholgaaGreat
