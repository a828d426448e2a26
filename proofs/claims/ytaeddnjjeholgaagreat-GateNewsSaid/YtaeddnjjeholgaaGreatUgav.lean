/- Texts side by side. -/
import Derived.Test.YtaeddnjjeholgaaGreatUgau
import Derived.Test.YtaeddnjjeholgaaGreatUgbn
set_option linter.unusedVariables false
set_option linter.unusedSimpArgs false
set_option maxRecDepth 100000
set_option maxHeartbeats 16000000
namespace Go.Proofs.YtaeddnjjeholgaaGreat
open Go.ChangeShapes Go.WideShapes Go.ChangeAt Go.RowKit Mem
namespace Gpn
open Kap Lat Lax Go.Lib Cel Bkp Bks Wpl Hpa Gpl Mdp Cfg Gow Gac Gat Gup Gex Gth Gmz Gsn Gsm
theorem kill_any (base : Nat) (ρ : Nat → Nat) (q : Gq) (r : Aq) (g0 g : Nat)  (G : Gp) (a : Ap) (w : World) (HG : Hid (Gt base ρ w g0 q G)) (ha : Hid (Ac ρ w g0 g r a)) (hmax : a.todo.length ≤ 100000)  :
    Calls Tryz.prog 83 #[pv g] w (MadeT base ρ q g0 g r.gp w (.tuple #[]) G (thenA a [.one (.take 0), .one (.load 0 .kill)])) := by
  have hmf := Gmk.make_f
  go_enter Tryz.func83, Tryz.ntmps83
  have z1 := HG.out.new
  have z2 := new_alloc (o := .cells #[pv g] 46) z1
  have b3 : Below w.heap.size w (((w).alloc (.cells #[pv g] 46)).drew) := (β (w) (.cells #[pv g] 46)).drew
  have K4 : Hid (B1 ρ (((w).alloc (.cells #[pv g] 46)).drew) (w.heap.size) 46 #[pv g]) := κ (B1.ext (B1.mk (b := w.heap.size) (te := 46) (cs := #[pv g]) z1 (by simp)) (Below.refl _ _).drew)
  have H5 := κ (Gt.ext HG.out b3)
  have H6 := κ (Ac.ext ha.out b3)
  go_upto_region 1 with fail
  obtain ⟨g7, e8⟩ : ∃ x, x = w.heap.size := ⟨_, rfl⟩
  simp only [← e8] at K4 ⊢
  clear e8
  have F9 : Hid (Fs (· = g + 8) ρ w ρ (((w).alloc (.cells #[pv g] 46)).drew)) := κ (Fs.quiet b3)
  let T10 : World → Prop := fun w' => w'.cell? ⟨g7, 0, none⟩ = some (.pointer (some ⟨g, 0, none⟩)) ∧ True
  have P11 : Hid (T10 ((w).alloc (.cells #[pv g] 46)).drew) := κ ⟨(K4.out.1.cell 0), trivial⟩
  refine Ω T10 [] ?_
  generalize ((w).alloc (.cells #[pv g] 46)).drew = wd at H5 H6 K4 F9 P11 ⊢
  refine jB 0 P11.out ?_
  refine jB 1 P11.out ?_
  refine jB 3 P11.out ?_
  refine jA 4 P11.out ?_
  refine jN 2 fun K' hK => ?_
  go_simp
  refine (take_acc g0 r.gp H5.out.new 0).mono ?_
  rintro e w14 ⟨k12, cap13, rfl, i15, b16⟩
  have H17 := κ (Gt.ext H5.out b16)
  have H18 := κ (Ac.ext H6.out b16)
  have H19 := κ (B1.ext K4.out b16)
  have i15 := κ i15
  have F20 := κ (F9.out.trans (Fs.quiet b16))
  have P21 : Hid (T10 w14) := κ ⟨(H19.out.1.cell 0), trivial⟩
  refine hK.out _ _ P21.out ?_
  clear hK K'
  refine jP ?_
  refine jN 5 fun K' hK => ?_
  go_simp
  refine (load_acc g0 r.gp H17.out.new 0 .kill 131 #[pv g7] ⟨_, rfl, H19.out⟩).mono ?_
  rintro e w24 ⟨k22, cap23, rfl, i25, b26⟩
  have I27 := κ (IsAcc.ext i15.out b26)
  have H28 := κ (Gt.ext H17.out b26)
  have H29 := κ (Ac.ext H18.out b26)
  have H30 := κ (B1.ext H19.out b26)
  have i25 := κ i25
  have F31 := κ (F20.out.trans (Fs.quiet b26))
  have P32 : Hid (T10 w24) := κ ⟨(H30.out.1.cell 0), trivial⟩
  refine hK.out _ _ P32.out ?_
  clear hK K'
  refine jP ?_
  refine jN 6 fun K' hK => ?_
  go_simp
  have b34 := β (w24) (.cells #[(.func (.func k12) #[] cap13), (.func (.func k22) #[] cap23)] 126)
  have K35 := κ (Blk.fresh (w24) 126 #[(.func (.func k12) #[] cap13), (.func (.func k22) #[] cap23)])
  have H38 := κ (Gt.ext H28.out b34)
  have H39 := κ (Ac.ext H29.out b34)
  have H40 := κ (B1.ext H30.out b34)
  have L41 : Hid (Are (IsAcc ρ ((w24).alloc (.cells #[(.func (.func k12) #[] cap13), (.func (.func k22) #[] cap23)] 126)) g0 g r.gp) [.one (.take 0), .one (.load 0 .kill)] [(.func (.func k12) #[] cap13), (.func (.func k22) #[] cap23)]) := κ (.cons (IsAcc.ext I27.out b34) (.cons (IsAcc.ext i25.out b34) (.nil)))
  obtain ⟨g36, e37⟩ : ∃ x, x = w24.heap.size := ⟨_, rfl⟩
  simp only [← e37] at K35 ⊢
  clear e37
  have F42 := κ (F31.out.trans (Fs.quiet b34))
  generalize (w24).alloc (.cells #[(.func (.func k12) #[] cap13), (.func (.func k22) #[] cap23)] 126) = w33 at H38 H39 H40 L41 K35 F42 ⊢
  have P43 : Hid (T10 w33) := κ ⟨(H40.out.1.cell 0), trivial⟩
  refine hK.out _ _ P43.out ?_
  clear hK K'
  refine jP ?_
  refine jN 7 fun K' hK => ?_
  go_simp
  refine (then_any base ρ q r g0 g g36 2 G a _ _ w33 H38 H39 K35 L41 (κ rfl) (by decide) (by omega)).mono ?_
  rintro e w46 ⟨rfl, ρ44, r45, f47, H48, H49, p50⟩
  have H51 := κ (B1.fs H40.out f47 (by omega))
  have H48 := κ H48
  have H49 := κ H49
  have p50 := κ p50
  have F52 := κ (Fs.trans F42.out f47)
  have P53 : Hid (T10 w46) := κ ⟨(H51.out.1.cell 0), trivial⟩
  refine hK.out _ _ P53.out ?_
  clear hK K'
  refine jP ?_
  refine Δ ?_
  go_wp2_with fail
  exact bodyPost_ret (v := .tuple #[]) (by simp [results, Tryz.results83, go_sem]) rfl ⟨rfl, ρ44, r45, F52.out, H48.out, H49.out, p50.out⟩
theorem rearm_any (base : Nat) (ρ : Nat → Nat) (q : Gq) (r : Aq) (g0 g : Nat)  (G : Gp) (a : Ap) (w : World) (HG : Hid (Gt base ρ w g0 q G)) (ha : Hid (Ac ρ w g0 g r a)) (hmax : a.todo.length ≤ 100000)  :
    Calls Tryz.prog 84 #[pv g] w (MadeT base ρ q g0 g r.gp w (.tuple #[]) G (thenA a [.one (.take 0), .one (.load 0 .rearm)])) := by
  have hmf := Gmk.make_f
  go_enter Tryz.func84, Tryz.ntmps84
  have z1 := HG.out.new
  have z2 := new_alloc (o := .cells #[pv g] 46) z1
  have b3 : Below w.heap.size w (((w).alloc (.cells #[pv g] 46)).drew) := (β (w) (.cells #[pv g] 46)).drew
  have K4 : Hid (B1 ρ (((w).alloc (.cells #[pv g] 46)).drew) (w.heap.size) 46 #[pv g]) := κ (B1.ext (B1.mk (b := w.heap.size) (te := 46) (cs := #[pv g]) z1 (by simp)) (Below.refl _ _).drew)
  have H5 := κ (Gt.ext HG.out b3)
  have H6 := κ (Ac.ext ha.out b3)
  go_upto_region 1 with fail
  obtain ⟨g7, e8⟩ : ∃ x, x = w.heap.size := ⟨_, rfl⟩
  simp only [← e8] at K4 ⊢
  clear e8
  have F9 : Hid (Fs (· = g + 8) ρ w ρ (((w).alloc (.cells #[pv g] 46)).drew)) := κ (Fs.quiet b3)
  let T10 : World → Prop := fun w' => w'.cell? ⟨g7, 0, none⟩ = some (.pointer (some ⟨g, 0, none⟩)) ∧ True
  have P11 : Hid (T10 ((w).alloc (.cells #[pv g] 46)).drew) := κ ⟨(K4.out.1.cell 0), trivial⟩
  refine Ω T10 [] ?_
  generalize ((w).alloc (.cells #[pv g] 46)).drew = wd at H5 H6 K4 F9 P11 ⊢
  refine jB 0 P11.out ?_
  refine jB 1 P11.out ?_
  refine jB 3 P11.out ?_
  refine jA 4 P11.out ?_
  refine jN 2 fun K' hK => ?_
  go_simp
  refine (take_acc g0 r.gp H5.out.new 0).mono ?_
  rintro e w14 ⟨k12, cap13, rfl, i15, b16⟩
  have H17 := κ (Gt.ext H5.out b16)
  have H18 := κ (Ac.ext H6.out b16)
  have H19 := κ (B1.ext K4.out b16)
  have i15 := κ i15
  have F20 := κ (F9.out.trans (Fs.quiet b16))
  have P21 : Hid (T10 w14) := κ ⟨(H19.out.1.cell 0), trivial⟩
  refine hK.out _ _ P21.out ?_
  clear hK K'
  refine jP ?_
  refine jN 5 fun K' hK => ?_
  go_simp
  refine (load_acc g0 r.gp H17.out.new 0 .rearm 136 #[pv g7] ⟨_, rfl, H19.out⟩).mono ?_
  rintro e w24 ⟨k22, cap23, rfl, i25, b26⟩
  have I27 := κ (IsAcc.ext i15.out b26)
  have H28 := κ (Gt.ext H17.out b26)
  have H29 := κ (Ac.ext H18.out b26)
  have H30 := κ (B1.ext H19.out b26)
  have i25 := κ i25
  have F31 := κ (F20.out.trans (Fs.quiet b26))
  have P32 : Hid (T10 w24) := κ ⟨(H30.out.1.cell 0), trivial⟩
  refine hK.out _ _ P32.out ?_
  clear hK K'
  refine jP ?_
  refine jN 6 fun K' hK => ?_
  go_simp
  have b34 := β (w24) (.cells #[(.func (.func k12) #[] cap13), (.func (.func k22) #[] cap23)] 126)
  have K35 := κ (Blk.fresh (w24) 126 #[(.func (.func k12) #[] cap13), (.func (.func k22) #[] cap23)])
  have H38 := κ (Gt.ext H28.out b34)
  have H39 := κ (Ac.ext H29.out b34)
  have H40 := κ (B1.ext H30.out b34)
  have L41 : Hid (Are (IsAcc ρ ((w24).alloc (.cells #[(.func (.func k12) #[] cap13), (.func (.func k22) #[] cap23)] 126)) g0 g r.gp) [.one (.take 0), .one (.load 0 .rearm)] [(.func (.func k12) #[] cap13), (.func (.func k22) #[] cap23)]) := κ (.cons (IsAcc.ext I27.out b34) (.cons (IsAcc.ext i25.out b34) (.nil)))
  obtain ⟨g36, e37⟩ : ∃ x, x = w24.heap.size := ⟨_, rfl⟩
  simp only [← e37] at K35 ⊢
  clear e37
  have F42 := κ (F31.out.trans (Fs.quiet b34))
  generalize (w24).alloc (.cells #[(.func (.func k12) #[] cap13), (.func (.func k22) #[] cap23)] 126) = w33 at H38 H39 H40 L41 K35 F42 ⊢
  have P43 : Hid (T10 w33) := κ ⟨(H40.out.1.cell 0), trivial⟩
  refine hK.out _ _ P43.out ?_
  clear hK K'
  refine jP ?_
  refine jN 7 fun K' hK => ?_
  go_simp
  refine (then_any base ρ q r g0 g g36 2 G a _ _ w33 H38 H39 K35 L41 (κ rfl) (by decide) (by omega)).mono ?_
  rintro e w46 ⟨rfl, ρ44, r45, f47, H48, H49, p50⟩
  have H51 := κ (B1.fs H40.out f47 (by omega))
  have H48 := κ H48
  have H49 := κ H49
  have p50 := κ p50
  have F52 := κ (Fs.trans F42.out f47)
  have P53 : Hid (T10 w46) := κ ⟨(H51.out.1.cell 0), trivial⟩
  refine hK.out _ _ P53.out ?_
  clear hK K'
  refine jP ?_
  refine Δ ?_
  go_wp2_with fail
  exact bodyPost_ret (v := .tuple #[]) (by simp [results, Tryz.results84, go_sem]) rfl ⟨rfl, ρ44, r45, F52.out, H48.out, H49.out, p50.out⟩
theorem cancel_any (base : Nat) (ρ : Nat → Nat) (q : Gq) (r : Aq) (g0 g : Nat) (id : Int) (G : Gp) (a : Ap) (w : World) (HG : Hid (Gt base ρ w g0 q G)) (ha : Hid (Ac ρ w g0 g r a)) (hmax : a.todo.length ≤ 100000) (h0 : 0 ≤ id) (h1 : id ≤ 9223372036854775807) (l0 : 1 ≤ G.bs.length) (l1 : G.bs.length ≤ 1000) :
    Calls Tryz.prog 77 #[pv g, .int .i64 id] w (MadeT base ρ q g0 g r.gp w (.tuple #[]) G (thenA a [.one (.take (shL (id.tmod G.bs.length))), .one (.load 0 (.look a.place (.cancel id (id.tmod G.bs.length))))])) := by
  have hmf := Gmk.make_f
  obtain ⟨sn, hsn⟩ : ∃ x, x = id.tmod (G.bs.length : Int) := ⟨_, rfl⟩
  have s0 : 0 ≤ sn := by rw [hsn]; exact Int.tmod_nonneg _ h0
  have s1 : sn ≤ 1000 := by have := Int.tmod_lt_of_pos id (b := (G.bs.length : Int)) (by omega); omega
  rw [← hsn]
  go_enter Tryz.func77, Tryz.ntmps77
  have z1 := HG.out.new
  have z2 := new_alloc (o := .cells #[pv g] 46) z1
  have z3 := new_alloc (o := .cells #[.int .i64 id] 3) z2
  have z4 := new_alloc (o := .cells #[pv g0] 36) z3
  have z5 := new_alloc (o := .cells #[.int .i64 sn] 3) z4
  have c2 := Ac.c0 (Ac.ext ha.out (below_step (β (w) (.cells #[pv g] 46)) (β ((w).alloc (.cells #[pv g] 46)) (.cells #[.int .i64 id] 3))))
  have sc := shardOf_any base ρ q g0 id G _ (κ (Gt.ext HG.out (below_step (below_step (β (w) (.cells #[pv g] 46)) (β ((w).alloc (.cells #[pv g] 46)) (.cells #[.int .i64 id] 3))) (β (((w).alloc (.cells #[pv g] 46)).alloc (.cells #[.int .i64 id] 3)) (.cells #[pv g0] 36))))) h0 h1 l0 l1
  rw [← hsn] at sc
  clear hsn
  have b6 : Below w.heap.size w ((((((w).alloc (.cells #[pv g] 46)).alloc (.cells #[.int .i64 id] 3)).alloc (.cells #[pv g0] 36)).alloc (.cells #[.int .i64 sn] 3)).drew) := (below_step (below_step (below_step (β (w) (.cells #[pv g] 46)) (β ((w).alloc (.cells #[pv g] 46)) (.cells #[.int .i64 id] 3))) (β (((w).alloc (.cells #[pv g] 46)).alloc (.cells #[.int .i64 id] 3)) (.cells #[pv g0] 36))) (β ((((w).alloc (.cells #[pv g] 46)).alloc (.cells #[.int .i64 id] 3)).alloc (.cells #[pv g0] 36)) (.cells #[.int .i64 sn] 3))).drew
  have K7 : Hid (B1 ρ ((((((w).alloc (.cells #[pv g] 46)).alloc (.cells #[.int .i64 id] 3)).alloc (.cells #[pv g0] 36)).alloc (.cells #[.int .i64 sn] 3)).drew) (w.heap.size) 46 #[pv g]) := κ (B1.ext (B1.ext (B1.mk (b := w.heap.size) (te := 46) (cs := #[pv g]) z1 (by simp)) (below_step (below_step (β ((w).alloc (.cells #[pv g] 46)) (.cells #[.int .i64 id] 3)) (β (((w).alloc (.cells #[pv g] 46)).alloc (.cells #[.int .i64 id] 3)) (.cells #[pv g0] 36))) (β ((((w).alloc (.cells #[pv g] 46)).alloc (.cells #[.int .i64 id] 3)).alloc (.cells #[pv g0] 36)) (.cells #[.int .i64 sn] 3)))) (Below.refl _ _).drew)
  have K8 : Hid (B1 ρ ((((((w).alloc (.cells #[pv g] 46)).alloc (.cells #[.int .i64 id] 3)).alloc (.cells #[pv g0] 36)).alloc (.cells #[.int .i64 sn] 3)).drew) (w.heap.size + 1) 3 #[.int .i64 id]) := κ (B1.ext (B1.ext (B1.mk (b := w.heap.size + 1) (te := 3) (cs := #[.int .i64 id]) z2 (by simp)) (below_step (β (((w).alloc (.cells #[pv g] 46)).alloc (.cells #[.int .i64 id] 3)) (.cells #[pv g0] 36)) (β ((((w).alloc (.cells #[pv g] 46)).alloc (.cells #[.int .i64 id] 3)).alloc (.cells #[pv g0] 36)) (.cells #[.int .i64 sn] 3)))) (Below.refl _ _).drew)
  have K9 : Hid (B1 ρ ((((((w).alloc (.cells #[pv g] 46)).alloc (.cells #[.int .i64 id] 3)).alloc (.cells #[pv g0] 36)).alloc (.cells #[.int .i64 sn] 3)).drew) (w.heap.size + 1 + 1) 36 #[pv g0]) := κ (B1.ext (B1.ext (B1.mk (b := w.heap.size + 1 + 1) (te := 36) (cs := #[pv g0]) z3 (by simp)) (β ((((w).alloc (.cells #[pv g] 46)).alloc (.cells #[.int .i64 id] 3)).alloc (.cells #[pv g0] 36)) (.cells #[.int .i64 sn] 3))) (Below.refl _ _).drew)
  have K10 : Hid (B1 ρ ((((((w).alloc (.cells #[pv g] 46)).alloc (.cells #[.int .i64 id] 3)).alloc (.cells #[pv g0] 36)).alloc (.cells #[.int .i64 sn] 3)).drew) (w.heap.size + 1 + 1 + 1) 3 #[.int .i64 sn]) := κ (B1.ext (B1.mk (b := w.heap.size + 1 + 1 + 1) (te := 3) (cs := #[.int .i64 sn]) z4 (by simp)) (Below.refl _ _).drew)
  have H11 := κ (Gt.ext HG.out b6)
  have H12 := κ (Ac.ext ha.out b6)
  go_upto_region 3 with (go_at_call 119; refine sc.mono ?_; rintro e w9 ⟨rfl, rfl⟩)
  obtain ⟨g13, e14⟩ : ∃ x, x = w.heap.size + 1 + 1 + 1 := ⟨_, rfl⟩
  obtain ⟨g15, e16⟩ : ∃ x, x = w.heap.size + 1 + 1 := ⟨_, rfl⟩
  obtain ⟨g17, e18⟩ : ∃ x, x = w.heap.size + 1 := ⟨_, rfl⟩
  obtain ⟨g19, e20⟩ : ∃ x, x = w.heap.size := ⟨_, rfl⟩
  simp only [← e14] at K7 K8 K9 K10 ⊢
  simp only [← e16] at K7 K8 K9 K10 ⊢
  simp only [← e18] at K7 K8 K9 K10 ⊢
  simp only [← e20] at K7 K8 K9 K10 ⊢
  clear e14 e16 e18 e20
  have F21 : Hid (Fs (· = g + 8) ρ w ρ ((((((w).alloc (.cells #[pv g] 46)).alloc (.cells #[.int .i64 id] 3)).alloc (.cells #[pv g0] 36)).alloc (.cells #[.int .i64 sn] 3)).drew)) := κ (Fs.quiet b6)
  let T22 : World → Prop := fun w' => w'.cell? ⟨g19, 0, none⟩ = some (.pointer (some ⟨g, 0, none⟩)) ∧ w'.cell? ⟨g13, 0, none⟩ = some (.int .i64 sn) ∧ w'.cell? ⟨g, 2, none⟩ = some (.int .i64 a.place)
  have P23 : Hid (T22 (((((w).alloc (.cells #[pv g] 46)).alloc (.cells #[.int .i64 id] 3)).alloc (.cells #[pv g0] 36)).alloc (.cells #[.int .i64 sn] 3)).drew) := κ ⟨(K7.out.1.cell 0), (K10.out.1.cell 0), (Ac.c2 H12.out :)⟩
  refine Ω T22 [] ?_
  generalize (((((w).alloc (.cells #[pv g] 46)).alloc (.cells #[.int .i64 id] 3)).alloc (.cells #[pv g0] 36)).alloc (.cells #[.int .i64 sn] 3)).drew = wd at H11 H12 K10 K9 K8 K7 F21 P23 ⊢
  refine jB 0 P23.out ?_
  refine jB 1 P23.out ?_
  refine jB 2 P23.out ?_
  refine jB 5 P23.out ?_
  refine jB 6 P23.out ?_
  refine jA 7 P23.out ?_
  refine jA 8 P23.out ?_
  refine jB 9 P23.out ?_
  refine jA 10 P23.out ?_
  refine jN 3 fun K' hK => ?_
  go_simp
  refine (shardLatch_any sn wd s0 s1).mono ?_
  rintro e w9 ⟨rfl, rfl⟩
  refine hK.out _ _ P23.out ?_
  clear hK K'
  refine jP ?_
  refine jN 4 fun K' hK => ?_
  go_simp
  refine (take_acc g0 r.gp H11.out.new (2 + sn)).mono ?_
  rintro e w26 ⟨k24, cap25, rfl, i27, b28⟩
  have H29 := κ (Gt.ext H11.out b28)
  have H30 := κ (Ac.ext H12.out b28)
  have H31 := κ (B1.ext K10.out b28)
  have H32 := κ (B1.ext K9.out b28)
  have H33 := κ (B1.ext K8.out b28)
  have H34 := κ (B1.ext K7.out b28)
  have i27 := κ i27
  have F35 := κ (F21.out.trans (Fs.quiet b28))
  have P36 : Hid (T22 w26) := κ ⟨(H34.out.1.cell 0), (H31.out.1.cell 0), (Ac.c2 H30.out :)⟩
  refine hK.out _ _ P36.out ?_
  clear hK K'
  refine jP ?_
  refine jN 11 fun K' hK => ?_
  go_simp
  refine (look_acc g0 r.gp H29.out.new a.place (.cancel id sn) 120 #[pv g15, pv g13, pv g17, pv g19] ⟨_, _, _, _, rfl, H32.out, H31.out, H33.out, H34.out⟩).mono ?_
  rintro e w39 ⟨k37, cap38, rfl, i40, b41⟩
  have I42 := κ (IsAcc.ext i27.out b41)
  have H43 := κ (Gt.ext H29.out b41)
  have H44 := κ (Ac.ext H30.out b41)
  have H45 := κ (B1.ext H31.out b41)
  have H46 := κ (B1.ext H32.out b41)
  have H47 := κ (B1.ext H33.out b41)
  have H48 := κ (B1.ext H34.out b41)
  have i40 := κ i40
  have F49 := κ (F35.out.trans (Fs.quiet b41))
  have P50 : Hid (T22 w39) := κ ⟨(H48.out.1.cell 0), (H45.out.1.cell 0), (Ac.c2 H44.out :)⟩
  refine hK.out _ _ P50.out ?_
  clear hK K'
  refine jP ?_
  refine jN 12 fun K' hK => ?_
  go_simp
  have b52 := β (w39) (.cells #[(.func (.func k24) #[] cap25), (.func (.func k37) #[] cap38)] 126)
  have K53 := κ (Blk.fresh (w39) 126 #[(.func (.func k24) #[] cap25), (.func (.func k37) #[] cap38)])
  have H56 := κ (Gt.ext H43.out b52)
  have H57 := κ (Ac.ext H44.out b52)
  have H58 := κ (B1.ext H45.out b52)
  have H59 := κ (B1.ext H46.out b52)
  have H60 := κ (B1.ext H47.out b52)
  have H61 := κ (B1.ext H48.out b52)
  have L62 : Hid (Are (IsAcc ρ ((w39).alloc (.cells #[(.func (.func k24) #[] cap25), (.func (.func k37) #[] cap38)] 126)) g0 g r.gp) [.one (.take (shL sn)), .one (.load 0 (.look a.place (.cancel id sn)))] [(.func (.func k24) #[] cap25), (.func (.func k37) #[] cap38)]) := κ (.cons (IsAcc.ext I42.out b52) (.cons (IsAcc.ext i40.out b52) (.nil)))
  obtain ⟨g54, e55⟩ : ∃ x, x = w39.heap.size := ⟨_, rfl⟩
  simp only [← e55] at K53 ⊢
  clear e55
  have F63 := κ (F49.out.trans (Fs.quiet b52))
  generalize (w39).alloc (.cells #[(.func (.func k24) #[] cap25), (.func (.func k37) #[] cap38)] 126) = w51 at H56 H57 H58 H59 H60 H61 L62 K53 F63 ⊢
  have P64 : Hid (T22 w51) := κ ⟨(H61.out.1.cell 0), (H58.out.1.cell 0), (Ac.c2 H57.out :)⟩
  refine hK.out _ _ P64.out ?_
  clear hK K'
  refine jP ?_
  refine jN 13 fun K' hK => ?_
  go_simp
  refine (then_any base ρ q r g0 g g54 2 G a _ _ w51 H56 H57 K53 L62 (κ rfl) (by decide) (by omega)).mono ?_
  rintro e w67 ⟨rfl, ρ65, r66, f68, H69, H70, p71⟩
  have H72 := κ (B1.fs H58.out f68 (by omega))
  have H73 := κ (B1.fs H59.out f68 (by omega))
  have H74 := κ (B1.fs H60.out f68 (by omega))
  have H75 := κ (B1.fs H61.out f68 (by omega))
  have H69 := κ H69
  have H70 := κ H70
  have p71 := κ p71
  have F76 := κ (Fs.trans F63.out f68)
  have P77 : Hid (T22 w67) := κ ⟨(H75.out.1.cell 0), (H72.out.1.cell 0), (Ac.c2 H70.out :)⟩
  refine hK.out _ _ P77.out ?_
  clear hK K'
  refine jP ?_
  refine Δ ?_
  go_wp2_with fail
  exact bodyPost_ret (v := .tuple #[]) (by simp [results, Tryz.results77, go_sem]) rfl ⟨rfl, ρ65, r66, F76.out, H69.out, H70.out, p71.out⟩
end Gpn
namespace Gpw
open Tre Ref3 Law3 Fix3 Crd CrdB CrdC Cpl Own Res Rel Lim
def MadeStO (l : List (Int × Int)) (w : World) (e : Ending) (w' : World) : Prop :=
  ∃ A c gu, e = .returned (.agg #[.slice A l.length c, .slice (some ⟨gu, 0, none⟩) l.length l.length]) ∧ w'.ownsRow w.heap.size 102 2 (.slice A l.length c) l.length (nds l) ∧ Blk w' gu 2 (madeCells #[.int .i64 0] l.length) ∧ w.heap.size ≤ gu ∧ Below w.heap.size w w'
theorem begin_own (A : Option Addr) (c : Nat) (l : List (Int × Int)) (w : World) (hl : Hid (Nds w w.heap.size A l)) (hmax : (l.length : Int) ≤ 1000000) :
    Calls Tryz.prog 140 #[.slice A l.length c] w (MadeStO l w) := by
  obtain ⟨i0, hi, hz0, hz1, hz2⟩ := info_parts i64_info
  have hmk := fun (W : World) => run_make (P := Tryz.prog) W 144 2 i0 (.int .i64 0) Tryz.underlying144 hi hz0 .i64 .i64 (l.length : Int) (l.length : Int) (by omega) (by omega) (by rw [hz2]; omega) (by omega)
  simp only [Int.toNat_natCast, hz1, Nat.mul_one] at hmk
  have H1 : Hid (∀ W, Below w.heap.size w W → Nds W W.heap.size A l) := fun W hb => Rd.below' hl.out hb hb.size
  have b0 : Below w.heap.size w (w.alloc (.cells #[.slice none 0 0, .slice none 0 0] 194)).drew := ((Below.refl _ _).alloc (Nat.le_refl _) _).drew
  have K0 : Hid (Blk (w.alloc (.cells #[.slice none 0 0, .slice none 0 0] 194)).drew w.heap.size 194 #[.slice none 0 0, .slice none 0 0]) := Blk.fresh w _ _
  have b0' : Below w.heap.size w ((w.alloc (.cells #[.slice none 0 0, .slice none 0 0] 194)).alloc (.cells (madeCells #[.int .i64 0] l.length) 2)).drew := (((Below.refl _ _).alloc (Nat.le_refl _) _).alloc (by simp) _).drew
  have K0' : Hid (Blk ((w.alloc (.cells #[.slice none 0 0, .slice none 0 0] 194)).alloc (.cells (madeCells #[.int .i64 0] l.length) 2)).drew w.heap.size 194 #[.slice none 0 0, .slice none 0 0]) := (Blk.fresh w _ _).alloc _
  have Z0' : Hid (Blk ((w.alloc (.cells #[.slice none 0 0, .slice none 0 0] 194)).alloc (.cells (madeCells #[.int .i64 0] l.length) 2)).drew (w.heap.size + 1) 2 (madeCells #[.int .i64 0] l.length)) := by
    have := Blk.fresh (w.alloc (.cells #[.slice none 0 0, .slice none 0 0] 194)) 2 (madeCells #[.int .i64 0] l.length)
    rw [World.size_alloc] at this
    exact this
  go_enter Tryz.func140, Tryz.ntmps140
  go_wp2_with fail
  go_region_held3 (fun w' => True) (trivial)
    (first
      | (go_at_call 67; refine (cloneN_any _ _ l _ (H1.out _ (by assumption)) hmax).mono ?_; rintro e w1 ⟨A1, c1, rfl, ho1, hb1⟩; have b1 := below_step (by assumption) hb1; have k1 : Hid (Blk w1 w.heap.size 194 #[.slice none 0 0, .slice none 0 0]) := Blk.below' (Hid.out (by assumption)) hb1; have r1 : w1.cell? ⟨w.heap.size, 0, none⟩ = some (.slice none 0 0) := k1.out.cell 0; have s1 : w1.cell? ⟨w.heap.size, 1, none⟩ = some (.slice none 0 0) := k1.out.cell 1; have y1 : w1.frozen? ⟨w.heap.size, 0, none⟩ = false := k1.out.thaw 0; have z1 : w1.frozen? ⟨w.heap.size, 1, none⟩ = false := k1.out.thaw 1; have n1 : w.heap.size < w1.heap.size := k1.out.lt))
  · have FA : ∀ a, A1 = some a → w.heap.size ≤ a.block := fun a h => by have h1 := Rsf.own_fresh ho1 a h; simp [World.drew] at h1; omega
    have FB : ∀ a, (some ⟨w1.heap.size, 0, none⟩ : Option Addr) = some a → w.heap.size ≤ a.block := fun a h => by injection h with h; rw [← h]; first | (show w.heap.size ≤ w1.heap.size; exact b1.size) | (show w.heap.size ≤ w.heap.size + 1; omega)
    have o1 : ((w1.setCell ⟨w.heap.size, 0, none⟩ (.slice A1 l.length c1)).setCell ⟨w.heap.size, 1, none⟩ (.slice (some ⟨w1.heap.size, 0, none⟩) l.length l.length)).ownsRow (w.heap.size + 1) 102 2 (.slice A1 l.length c1) l.length (nds l) :=
      ownsRow_setCell_below (ownsRow_setCell_below (own_mono (base' := w.heap.size + 1) ho1 (by simp [World.drew])) (by simp) _) (by simp) _
    have kf := Blk.alloc (blk_set (blk_set k1.out 0 (.slice A1 l.length c1)) 1 (.slice (some ⟨w1.heap.size, 0, none⟩) l.length l.length)) (.cells (madeCells #[.int .i64 0] l.length) 2)
    have g0 := kf.cell 0
    have g1 := kf.cell 1
    simp at g0 g1
    have zf := Blk.fresh ((w1.setCell ⟨w.heap.size, 0, none⟩ (.slice A1 l.length c1)).setCell ⟨w.heap.size, 1, none⟩ (.slice (some ⟨w1.heap.size, 0, none⟩) l.length l.length)) 2 (madeCells #[.int .i64 0] l.length)
    have hsz : ((w1.setCell ⟨w.heap.size, 0, none⟩ (.slice A1 l.length c1)).setCell ⟨w.heap.size, 1, none⟩ (.slice (some ⟨w1.heap.size, 0, none⟩) l.length l.length)).heap.size = w1.heap.size := by simp [World.setCell]
    rw [hsz] at zf
    have bF := ((b1.setCell (p := ⟨w.heap.size, 0, none⟩) (by simp) (.slice A1 l.length c1)).setCell (p := ⟨w.heap.size, 1, none⟩) (by simp) (.slice (some ⟨w1.heap.size, 0, none⟩) l.length l.length)).alloc (by rw [hsz]; omega) (.cells (madeCells #[.int .i64 0] l.length) 2)
    have O1 := Lib.hid (own_mono (base' := w.heap.size) (World.ownsRow.alloc o1 (.cells (madeCells #[.int .i64 0] l.length) 2)) (by omega))
    have ZF := Lib.hid zf
    clear o1 zf ho1 hsz hmk
    go_wp2_with fail
    exact bodyPost_ret (v := .agg #[.slice A1 l.length c1, .slice (some ⟨w1.heap.size, 0, none⟩) l.length l.length]) (by simp [results, Tryz.results140, go_sem, g0, g1]) rfl ⟨_, _, _, rfl, O1.out, ZF.out, FB _ rfl, bF⟩
  · have FA : ∀ a, A1 = some a → w.heap.size ≤ a.block := fun a h => by have h1 := Rsf.own_fresh ho1 a h; simp [World.drew] at h1; omega
    have FB : ∀ a, (some ⟨w.heap.size + 1, 0, none⟩ : Option Addr) = some a → w.heap.size ≤ a.block := fun a h => by injection h with h; rw [← h]; first | (show w.heap.size ≤ w1.heap.size; exact b1.size) | (show w.heap.size ≤ w.heap.size + 1; omega)
    have o1 : ((w1.setCell ⟨w.heap.size, 0, none⟩ (.slice A1 l.length c1)).setCell ⟨w.heap.size, 1, none⟩ (.slice (some ⟨w.heap.size + 1, 0, none⟩) l.length l.length)).ownsRow (w.heap.size + 1) 102 2 (.slice A1 l.length c1) l.length (nds l) :=
      ownsRow_setCell_below (ownsRow_setCell_below (own_mono (base' := w.heap.size + 1) ho1 (by simp [World.drew])) (by simp) _) (by simp) _
    have kf := blk_set (blk_set k1.out 0 (.slice A1 l.length c1)) 1 (.slice (some ⟨w.heap.size + 1, 0, none⟩) l.length l.length)
    have g0 := kf.cell 0
    have g1 := kf.cell 1
    simp at g0 g1
    have zf := blk_far (blk_far (Blk.below' Z0'.out hb1) (p := ⟨w.heap.size, 0, none⟩) (by simp) (.slice A1 l.length c1)) (p := ⟨w.heap.size, 1, none⟩) (by simp) (.slice (some ⟨w.heap.size + 1, 0, none⟩) l.length l.length)
    have bF := (b1.setCell (p := ⟨w.heap.size, 0, none⟩) (by simp) (.slice A1 l.length c1)).setCell (p := ⟨w.heap.size, 1, none⟩) (by simp) (.slice (some ⟨w.heap.size + 1, 0, none⟩) l.length l.length)
    have O1 := Lib.hid (own_mono (base' := w.heap.size) o1 (by omega))
    have ZF := Lib.hid zf
    clear o1 zf ho1 hmk
    go_wp2_with fail
    exact bodyPost_ret (v := .agg #[.slice A1 l.length c1, .slice (some ⟨w.heap.size + 1, 0, none⟩) l.length l.length]) (by simp [results, Tryz.results140, go_sem, g0, g1]) rfl ⟨_, _, _, rfl, O1.out, ZF.out, FB _ rfl, bF⟩
open Kap Lat Lax Cel Bkp Bks Wpl Hpa Gpl Mdp Cfg Gow Gac Gat Gup Gex Gth Gmz
def MadePu (G : Gp) (i : Nat) (w : World) (e : Ending) (w' : World) : Prop :=
  ∃ gp Ap cp An cn gu B, e = .returned (pv gp) ∧ Blk w' gp 198 #[.int .i64 (gI G.ac i), .slice Ap (pathF G.nd 3 (gI G.ac i)).length cp, .slice An G.nd.length cn, .slice (some ⟨gu, 0, none⟩) G.nd.length G.nd.length] ∧ B ≤ gp ∧ w.heap.size ≤ B ∧ Rd w' B Ap (ints (pathF G.nd 3 (gI G.ac i))) ∧ (∀ a, Ap = some a → w.heap.size ≤ a.block) ∧ w'.ownsRow B 102 2 (.slice An G.nd.length cn) G.nd.length (nds G.nd) ∧ Blk w' gu 2 (madeCells #[.int .i64 0] G.nd.length) ∧ B ≤ gu ∧ Below w.heap.size w w'
theorem madePu_mk {G : Gp} {i : Nat} {w wd w1 w2 : World} {Ap An : Option Addr} {cp cn gu : Nat} (h0 : Below w.heap.size w wd) (hr1 : Ris w1 w1.heap.size Ap (pathF G.nd 3 (gI G.ac i))) (hf1 : ∀ a, Ap = some a → wd.heap.size ≤ a.block) (hb1 : Below wd.heap.size wd w1) (ho : w2.ownsRow w1.heap.size 102 2 (.slice An G.nd.length cn) G.nd.length (nds G.nd)) (hu : Blk w2 gu 2 (madeCells #[.int .i64 0] G.nd.length)) (hl : w1.heap.size ≤ gu) (hb2 : Below w1.heap.size w1 w2) :
    MadePu G i w (.returned (.pointer (some ⟨w2.heap.size, 0, none⟩))) (w2.alloc (.cells #[.int .i64 (gI G.ac i), .slice Ap (pathF G.nd 3 (gI G.ac i)).length cp, .slice An G.nd.length cn, .slice (some ⟨gu, 0, none⟩) G.nd.length G.nd.length] 198)) := by
  have b3 := β w2 (.cells #[.int .i64 (gI G.ac i), .slice Ap (pathF G.nd 3 (gI G.ac i)).length cp, .slice An G.nd.length cn, .slice (some ⟨gu, 0, none⟩) G.nd.length G.nd.length] 198)
  have s1 := hb1.size
  have s0 := h0.size
  have s2 := hb2.size
  refine ⟨_, _, _, _, _, _, w1.heap.size, rfl, Blk.fresh _ _ _, by omega, by omega, Rd.below (Rd.below hr1 hb2) (b3.mono s2), fun a ha => by have := hf1 a ha; omega, World.ownsRow.alloc ho _, Blk.alloc hu _, hl, Cel.below_step (Cel.below_step (Cel.below_step h0 hb1) hb2) b3⟩
theorem purseOf_any (base : Nat) (ρ : Nat → Nat) (q : Gq) (g0 i : Nat) (G : Gp) (w : World) (HG : Hid (Gt base ρ w g0 q G)) (hi : i < G.ac.length) (hal : G.ac.length ≤ 1000) (hnl : G.nd.length ≤ 1000) (HW : Hid (WfN G.nd)) (hleaf : inI (gI G.ac i)) :
    Calls Tryz.prog 107 #[pv g0, .int .i64 (i : Int)] w (MadePu G i w) := by
  have c5 := Gt.c5 HG.out
  obtain ⟨b5, o5, hA5, hb5, hac⟩ := Ris.at (i := i) HG.out.ris.1 hi
  rw [hA5] at c5
  have ci := hac i hi
  obtain ⟨na, hna⟩ : ∃ n, n = G.ac.length := ⟨_, rfl⟩
  rw [← hna] at c5 hi hal
  clear hac hna hA5 hb5
  have HB0 : Hid (Below w.heap.size w w.drew) := κ (Below.refl _ _).drew
  have HD := κ (Gt.ext HG.out HB0.out)
  let T : World → Prop := fun w' => w'.cell? ⟨g0, 4, none⟩ = some (.slice q.A G.nd.length q.c) ∧ True
  have PT : Hid (T w.drew) := κ ⟨Gt.c4 HD.out, trivial⟩
  go_enter Tryz.func107, Tryz.ntmps107
  go_upto_region 2 with fail
  refine Ω T [] ?_
  generalize w.drew = wd at HD PT HB0 ⊢
  refine jA 0 PT.out ?_
  refine jA 1 PT.out ?_
  refine jA 2 PT.out ?_
  refine jA 3 PT.out ?_
  refine jA 4 PT.out ?_
  refine jB 5 PT.out ?_
  refine jA 6 PT.out ?_
  refine jA 8 PT.out ?_
  refine jA 9 PT.out ?_
  refine jA 10 PT.out ?_
  refine jA 11 PT.out ?_
  refine jB 12 PT.out ?_
  refine jN 7 fun K' hK => ?_
  go_simp
  refine (path_fresh q.A q.c G.nd (gI G.ac i) wd HD.out.nds.1 HW (by omega) hleaf).mono ?_
  rintro e w1 ⟨Ap, cp, rfl, hr1, hf1, hb1⟩
  have H1 := κ (Gt.ext HD.out hb1)
  have P1 : Hid (T w1) := κ ⟨Gt.c4 H1.out, trivial⟩
  have hr1 := κ hr1
  have hf1 := κ hf1
  have hb1 := κ hb1
  refine hK.out _ _ P1.out ?_
  clear hK K'
  refine jP ?_
  refine jN 13 fun K' hK => ?_
  go_simp
  refine (begin_own q.A q.c G.nd w1 (κ H1.out.nds.1) (by omega)).mono ?_
  rintro e w2 ⟨An, cn, gu, rfl, ho2, hu2, hl2, hb2⟩
  have H2 := κ (Gt.ext H1.out hb2)
  have P2 : Hid (T w2) := κ ⟨Gt.c4 H2.out, trivial⟩
  have ho2 := κ ho2
  have hu2 := κ hu2
  have hl2 := κ hl2
  have hb2 := κ hb2
  refine hK.out _ _ P2.out ?_
  clear hK K'
  refine jP ?_
  refine jA 14 P2.out ?_
  refine jN 15 fun K' hK => ?_
  go_simp
  have H3 := κ (Gt.ext H2.out (β w2 (.cells #[.int .i64 (gI G.ac i), .slice Ap (pathF G.nd 3 (gI G.ac i)).length cp, .slice An G.nd.length cn, .slice (some ⟨gu, 0, none⟩) G.nd.length G.nd.length] 198)))
  have P3 : Hid (T (w2.alloc (.cells #[.int .i64 (gI G.ac i), .slice Ap (pathF G.nd 3 (gI G.ac i)).length cp, .slice An G.nd.length cn, .slice (some ⟨gu, 0, none⟩) G.nd.length G.nd.length] 198))) := κ ⟨Gt.c4 H3.out, trivial⟩
  refine hK.out _ _ P3.out ?_
  clear hK K'
  refine jP ?_
  refine jA 16 P3.out ?_
  refine Δ ?_
  go_wp2_with fail
  go_ret
  exact madePu_mk HB0.out hr1.out hf1.out hb1.out ho2.out hu2.out hl2.out hb2.out
end Gpw
end Go.Proofs.YtaeddnjjeholgaaGreat
