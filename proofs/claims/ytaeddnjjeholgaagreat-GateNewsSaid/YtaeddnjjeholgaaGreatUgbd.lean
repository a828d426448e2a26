/- Texts side by side. -/
import Derived.Test.YtaeddnjjeholgaaGreatUgbc
set_option linter.unusedVariables false
set_option linter.unusedSimpArgs false
set_option maxRecDepth 100000
set_option maxHeartbeats 16000000
namespace Go.Proofs.YtaeddnjjeholgaaGreat
open Kap Lat Lax Go.ChangeShapes Go.WideShapes Go.ChangeAt Go.RowKit Go.Lib Mem Cel Bkp Bks Wpl Hpa Gpl Mdp Cfg Gow Gac Gat Gup Gex Gma Gth Gmz Gsn Gsm
namespace Gx2
theorem out_info : (Tryz.prog.info? 93).map (fun i => (i.zero, i.size, i.bytes)) = some (some (.agg #[.int .i64 0, .int .i64 0]), 2, 16) := by kernel_rfl
theorem int_inf : (Tryz.prog.info? 3).map (fun i => (i.zero, i.size, i.bytes)) = some (some (.int .i64 0), 1, 8) := by kernel_rfl
def MadeS (base : Nat) (ρ : Nat → Nat) (g0 : Nat) (w : World) (v : Value) (G' : Gp) (e : Ending) (w' : World) : Prop := e = .returned v ∧ ∃ ρ' q', Gt base ρ' w' g0 q' G' ∧ Fs (fun c => c = 1 ∨ c = 6 ∨ c = 7) ρ w ρ' w'
theorem send1_any (base : Nat) (ρ : Nat → Nat) (q : Gq) (g0 b1 b2 : Nat) (k i : Int) (G : Gp) (w : World) (HG : Hid (Gt base ρ w g0 q G)) (hV : Vs G) (hlo : G.out.length ≤ 1000000) (hla0 : G.at'.length ≤ 1000000) (k1 : B1 ρ w b1 36 #[pv g0]) (k2 : B1 ρ w b2 93 #[.int .i64 k, .int .i64 i]) :
    Calls Tryz.prog 158 #[pv b1, pv b2] w (MadeS base ρ g0 w (.tuple #[]) { G with out := G.out ++ [(k, i)], at' := G.at' ++ [G.cs.t] }) := by
  go_enter Tryz.func158, Tryz.ntmps158
  go_upto_region 0 with fail
  have K1 := κ k1
  have K2 := κ k2
  have bA : Below w.heap.size w w.drew := (Below.refl _ _).drew
  have GA := κ (Gt.ext HG.out bA)
  have XA := κ (B1.ext K1.out bA)
  have YA := κ (B1.ext K2.out bA)
  obtain ⟨nA, hnA⟩ : ∃ n, n = G.out.length := ⟨_, rfl⟩
  have hlA : nA ≤ 1000000 := by rw [hnA]; exact hlo
  have NA := κ hnA
  clear hnA
  obtain ⟨iA, hiA, hz0A, hz1A, hz2A⟩ := info_parts out_info
  let TA : World → Prop := fun w' => w'.cell? ⟨b1, 0, none⟩ = some (.pointer (some ⟨g0, 0, none⟩)) ∧ w'.cell? ⟨g0, 11, none⟩ = some (.slice q.Ao nA q.co) ∧ w'.cell? ⟨b2, 0, none⟩ = some (.int .i64 k) ∧ w'.cell? ⟨b2, 1, none⟩ = some (.int .i64 i)
  have PA : Hid (TA w.drew) := κ ⟨B1.c XA.out, (by rw [NA.out]; exact (Gt.c11 GA.out :)), YA.out.1.cell 0, YA.out.1.cell 1⟩
  refine Ω TA [10] ?_
  generalize w.drew = wdA at GA XA YA PA bA ⊢
  refine jB 0 PA.out ?_
  refine jB 1 PA.out ?_
  refine jA 2 PA.out ?_
  refine jA 3 PA.out ?_
  refine jB 4 PA.out ?_
  refine jB 5 PA.out ?_
  refine jN 6 fun K' hK => ?_
  go_simp
  have baA := β wdA (.cells #[.int .i64 k, .int .i64 i] 93)
  have GAa := κ (Gt.ext GA.out baA)
  have XAa := κ (B1.ext XA.out baA)
  have YAa := κ (B1.ext YA.out baA)
  have PAa : Hid (TA (wdA.alloc (.cells #[.int .i64 k, .int .i64 i] 93))) := κ ⟨B1.c XAa.out, (by rw [NA.out]; exact (Gt.c11 GAa.out :)), YAa.out.1.cell 0, YAa.out.1.cell 1⟩
  refine hK.out _ _ PAa.out ?_
  clear hK K'
  refine jP ?_
  refine jN 7 fun K' hK => ?_
  refine step_append_lies (wdA.alloc (.cells #[.int .i64 k, .int .i64 i] 93)) rfl _ _ 47 rfl 0 93 iA (.agg #[.int .i64 0, .int .i64 0]) 2 16 Tryz.underlying47 hiA hz0A hz1A hz2A rfl (by decide) (.slice q.Ao nA q.co) nA (Mem.nds G.out) rfl (by have := GAa.out.out.1; rw [← NA.out] at this; exact this) ⟨wdA.heap.size, 0, none⟩ 1 1 [.int .i64 k, .int .i64 i] rfl rfl (one_cells rfl) (by simp [Value.oneCell']) (by decide) (by simp only [maxLen]; omega) (by omega) (Nat.zero_le _) _ rfl ?_
  intro gnA capA wfA hoA hgA hatA hltA
  have eA : Fs (· = 6) ρ (wdA.alloc (.cells #[.int .i64 k, .int .i64 i] 93)) (if (Value.slice q.Ao nA q.co).ownBlock = some gnA then ρ else put ρ gnA 6) wfA := Fs.grown hgA (fun b hb => GAa.out.out.2 b (by rw [← NA.out]; exact hb)) (grow_own hatA) (fun N _ h => grow_cap (by decide) N h)
  have g0bA : Blk wfA g0 99 (gqV q G) := eA.blk GAa.out.blk (by rw [GAa.out.o0]; decide)
  have s1A : wfA.cell? ⟨g0, 11, none⟩ = some (.slice q.Ao nA q.co) := by rw [NA.out]; exact g0bA.cell 11
  have s2A := g0bA.thaw 11
  have XfA := B1.fs XAa.out eA (by decide)
  have YfA := B1.fs YAa.out eA (by decide)
  have s7A : wfA.cell? ⟨g0, 7, none⟩ = some (.pointer (some ⟨q.gc, 0, none⟩)) := g0bA.cell 7
  have PAf : Hid (TA wfA) := κ ⟨B1.c XfA, s1A, YfA.1.cell 0, YfA.1.cell 1⟩
  have hxA := κ (Gt.outgrow GAa.out (k, i) (cap := capA) (gn := gnA) (w' := wfA) (by rw [← NA.out, nds_snoc]; exact hoA) (by rw [← NA.out]; exact hgA) (by rw [← NA.out]; exact hatA) hltA)
  clear hoA hgA hatA hltA eA g0bA XfA YfA
  refine hK.out _ _ PAf.out ?_
  clear hK K'
  refine jP ?_
  refine jA 8 PAf.out ?_
  refine jA 9 PAf.out ?_
  refine jV 10 fun K' hK => ?_
  go_simp
  refine hK.out _ _ ?_
  clear hK K'
  refine jP ?_
  refine Δ ?_
  go_upto_region 1 with fail
  obtain ⟨ρ1, HG1, F1⟩ := hxA.out
  rw [← NA.out] at HG1 F1
  have FA := κ ((Fs.quiet (C := fun c => c = 1 ∨ c = 6) bA).trans ((Fs.quiet baA).trans F1))
  have K3 := κ (B1.fs (B1.fs K1.out (Fs.quiet (C := No) bA) id) ((Fs.quiet (C := fun c => c = 1 ∨ c = 6) baA).trans F1) (by decide))
  have HG1 := κ HG1
  obtain ⟨q1, hq1⟩ : ∃ x, x = ({ q with Ao := some ⟨gnA, 0, none⟩, co := capA } : Gq) := ⟨_, rfl⟩
  obtain ⟨G1, hG1⟩ : ∃ x, x = ({ G with out := G.out ++ [(k, i)] } : Gp) := ⟨_, rfl⟩
  rw [← hq1, ← hG1] at HG1
  have HGE := κ hG1
  have hla : G1.at'.length ≤ 1000000 := by rw [hG1]; exact hla0
  have hv1 : G1.cs = G.cs := by rw [hG1]
  clear hq1 hG1 hxA F1 bA baA s1A s2A s7A
  generalize (wfA.setCell ⟨g0, 11, none⟩ (.slice (some ⟨gnA, 0, none⟩) (nA + 1) capA)) = wA at HG1 FA K3 ⊢
  have bB : Below wA.heap.size wA wA.drew := (Below.refl _ _).drew
  have GB := κ (Gt.ext HG1.out bB)
  have XB := κ (B1.ext K3.out bB)
  obtain ⟨nB, hnB⟩ : ∃ n, n = G1.at'.length := ⟨_, rfl⟩
  have hlB : nB ≤ 1000000 := by rw [hnB]; exact hla
  have NB := κ hnB
  clear hnB
  obtain ⟨iB, hiB, hz0B, hz1B, hz2B⟩ := info_parts int_inf
  let TB : World → Prop := fun w' => w'.cell? ⟨b1, 0, none⟩ = some (.pointer (some ⟨g0, 0, none⟩)) ∧ w'.cell? ⟨g0, 12, none⟩ = some (.slice q1.At nB q1.ct) ∧ w'.cell? ⟨g0, 7, none⟩ = some (.pointer (some ⟨q1.gc, 0, none⟩))
  have PB : Hid (TB wA.drew) := κ ⟨B1.c XB.out, (by rw [NB.out]; exact (Gt.c12 GB.out :)), (Gt.c7 GB.out :)⟩
  refine Ω TB [14] ?_
  generalize wA.drew = wdB at GB XB PB bB ⊢
  have CT := Cn.time_any q1.gc q1.gw q1.gh G1.cs wdB (κ GB.out.cs) (by rw [hv1]; have := hV.wl; omega) (by rw [hv1]; have := hV.hl; omega)
  rw [hv1] at CT
  refine jB 0 PB.out ?_
  refine jB 1 PB.out ?_
  refine jA 2 PB.out ?_
  refine jA 3 PB.out ?_
  refine jB 4 PB.out ?_
  refine jB 5 PB.out ?_
  refine jA 6 PB.out ?_
  refine jA 7 PB.out ?_
  refine jB 8 PB.out ?_
  refine jN 9 fun K' hK => ?_
  go_simp
  refine CT.mono ?_
  rintro e w9 ⟨rfl, rfl⟩
  refine hK.out _ _ PB.out ?_
  clear hK K'
  refine jP ?_
  refine jN 10 fun K' hK => ?_
  go_simp
  have baB := β wdB (.cells #[.int .i64 G.cs.t] 3)
  have GBa := κ (Gt.ext GB.out baB)
  have XBa := κ (B1.ext XB.out baB)
  have PBa : Hid (TB (wdB.alloc (.cells #[.int .i64 G.cs.t] 3))) := κ ⟨B1.c XBa.out, (by rw [NB.out]; exact (Gt.c12 GBa.out :)), (Gt.c7 GBa.out :)⟩
  refine hK.out _ _ PBa.out ?_
  clear hK K'
  refine jP ?_
  refine jN 11 fun K' hK => ?_
  refine step_append_lies (wdB.alloc (.cells #[.int .i64 G.cs.t] 3)) rfl _ _ 23 rfl 0 3 iB (.int .i64 0) 1 8 Tryz.underlying23 hiB hz0B hz1B hz2B rfl (by decide) (.slice q1.At nB q1.ct) nB (ints G1.at') rfl (by have := GBa.out.at'.1; rw [← NB.out] at this; exact this) ⟨wdB.heap.size, 0, none⟩ 1 1 [.int .i64 G.cs.t] rfl rfl (one_cells rfl) (by simp [Value.oneCell']) (by decide) (by simp only [maxLen]; omega) (by omega) (Nat.zero_le _) _ rfl ?_
  intro gnB capB wfB hoB hgB hatB hltB
  have eB : Fs (· = 7) ρ1 (wdB.alloc (.cells #[.int .i64 G.cs.t] 3)) (if (Value.slice q1.At nB q1.ct).ownBlock = some gnB then ρ1 else put ρ1 gnB 7) wfB := Fs.grown hgB (fun b hb => GBa.out.at'.2 b (by rw [← NB.out]; exact hb)) (grow_own hatB) (fun N _ h => grow_cap (by decide) N h)
  have g0bB : Blk wfB g0 99 (gqV q1 G1) := eB.blk GBa.out.blk (by rw [GBa.out.o0]; decide)
  have s1B : wfB.cell? ⟨g0, 12, none⟩ = some (.slice q1.At nB q1.ct) := by rw [NB.out]; exact g0bB.cell 12
  have s2B := g0bB.thaw 12
  have XfB := B1.fs XBa.out eB (by decide)
  have s7B : wfB.cell? ⟨g0, 7, none⟩ = some (.pointer (some ⟨q1.gc, 0, none⟩)) := g0bB.cell 7
  have PBf : Hid (TB wfB) := κ ⟨B1.c XfB, s1B, s7B⟩
  have hxB := κ (Gt.atgrow GBa.out G.cs.t (cap := capB) (gn := gnB) (w' := wfB) (by rw [← NB.out, ints_snoc]; exact hoB) (by rw [← NB.out]; exact hgB) (by rw [← NB.out]; exact hatB) hltB)
  clear hoB hgB hatB hltB eB g0bB XfB
  refine hK.out _ _ PBf.out ?_
  clear hK K'
  refine jP ?_
  refine jA 12 PBf.out ?_
  refine jA 13 PBf.out ?_
  refine jV 14 fun K' hK => ?_
  go_simp
  refine hK.out _ _ ?_
  clear hK K'
  refine jP ?_
  refine Δ ?_
  go_wp2_with fail
  obtain ⟨ρ2, HG2, F2⟩ := hxB.out
  rw [← NB.out] at HG2 F2
  have FB := FA.out.mono (D := fun c => c = 1 ∨ c = 6 ∨ c = 7) (fun i h => h.elim .inl (fun h => .inr (.inl h)))
  have FC := ((Fs.quiet (C := fun c => c = 1 ∨ c = 7) bB).trans ((Fs.quiet baB).trans F2)).mono (D := fun c => c = 1 ∨ c = 6 ∨ c = 7) (fun i h => h.elim .inl (fun h => .inr (.inr h)))
  exact bodyPost_ret (v := .tuple #[]) (by simp [results, Tryz.results158, go_sem]) rfl ⟨rfl, ρ2, _, by have h9 := HG2; rw [HGE.out] at h9; exact h9, FB.trans FC⟩
end Gx2
namespace Gx3
open Glp
theorem keep_of {ρ : Nat → Nat} {w w1 : World} {g0 g j n m : Nat} {vs us : List Value} {v u : Value} {r : Aq} {a : Ap} (hg : Grew ρ w j n m vs us v w1) (ha : Ac ρ w g0 g r a) : ∀ k te cs, te ≠ 126 → te ≠ 118 → Blk w k te cs → Blk (w1.setCell ⟨g, 3, none⟩ u) k te cs := by
  intro k te cs h1 h2 hk
  obtain ⟨A', c', ρ', _, _, _, _, ho⟩ := hg
  exact Ot.set (ho g 118 _ (by decide) ha.blk) 3 u k te cs h2 (ho k te cs h1 hk)
def MadeK (base : Nat) (ρ : Nat → Nat) (q : Gq) (g0 g : Nat) (gp : Option Nat) (w : World) (G : Gp) (a' : Ap) (e : Ending) (w' : World) : Prop := MadeT base ρ q g0 g gp w (.tuple #[]) G a' e w' ∧ ∀ k te cs, te ≠ 126 → te ≠ 118 → Blk w k te cs → Blk w' k te cs
theorem then_keep (base : Nat) (ρ : Nat → Nat) (q : Gq) (r : Aq) (g0 g gb m : Nat) (G : Gp) (a : Ap) (us : List Value) (l : List Acc) (w : World) (HG : Hid (Gt base ρ w g0 q G)) (ha : Hid (Ac ρ w g0 g r a)) (hb : Hid (Blk w gb 126 us.toArray)) (hl : Hid (Are (IsAcc ρ w g0 g r.gp) l us)) (hm : Hid (us.length = m)) (h0 : 0 < m) (hmax : a.todo.length + m ≤ 1000000) :
    Calls Tryz.prog 100 #[pv g, .slice (some ⟨gb, 0, none⟩) m m] w (MadeK base ρ q g0 g r.gp w G (thenA a l)) := by
  obtain ⟨i0, hi, hz0, hz1, hz2⟩ := info_parts acc_info
  have t3 := Ac.c3 ha.out
  have z3 := Ac.z ha.out 3
  obtain ⟨n, hn⟩ : ∃ n, n = a.todo.length := ⟨_, rfl⟩
  rw [← hn] at t3 hmax
  have HN := κ hn
  have HT : Hid (Tod ρ w (g + 8) r.A n r.c r.vs) := κ (by rw [hn]; exact ha.out.tod)
  have HZ : Hid (∀ k, w.heap.size ≤ k → ρ k = 0) := κ HG.out.new
  have H1 : Hid (∀ u ∈ us, u.oneCell' = true) := κ (are_one hl.out)
  clear hn
  go_enter Tryz.func100, Tryz.ntmps100
  go_wp2_with (at_builtin; refine wp_todo HT HZ hb hm h0 H1 hmax (by have := ha.out.blk.lt; omega) (.tmp 8) (.tmp 9) 116 rfl rfl i0 Tryz.underlying116 hi hz0 hz1 hz2 rfl rfl (fun A1 c1 w1 hg => ?_); have c3 : w1.cell? (α g 3) = some (.slice r.A n r.c) := by {obtain ⟨A', c', ρ', _, _, _, _, ho⟩ := hg.out; rw [HN.out]; exact (ho g 118 _ (by decide) ha.out.blk).cell 3}; have y3 : w1.frozen? (α g 3) = false := by {obtain ⟨A', c', ρ', _, _, _, _, ho⟩ := hg.out; exact (ho g 118 _ (by decide) ha.out.blk).thaw 3})
  exact bodyPost_ret (v := .tuple #[]) (by simp [results, Tryz.results100, go_sem]) rfl ⟨madeT_grew HG.out ha.out hl.out hm.out (by rw [← HN.out]; exact hg.out), keep_of hg.out ha.out⟩
theorem send_any (base : Nat) (ρ : Nat → Nat) (q : Gq) (r : Aq) (g0 g : Nat) (k i : Int) (G : Gp) (a : Ap) (w : World) (HG : Hid (Gt base ρ w g0 q G)) (ha : Hid (Ac ρ w g0 g r a)) (hmax : a.todo.length ≤ 100000) :
    Calls Tryz.prog 117 #[pv g, .agg #[.int .i64 k, .int .i64 i]] w (MadeT base ρ q g0 g r.gp w (.tuple #[]) G (thenA a (sendL k i))) := by
  have hmf := Gmk.make_f
  go_enter Tryz.func117, Tryz.ntmps117
  have z1 := HG.out.new
  have z2 := new_alloc (o := .cells #[.int .i64 k, .int .i64 i] 93) z1
  have z3 := new_alloc (o := .cells #[pv g0] 36) z2
  have c0 := Ac.c0 (Ac.ext ha.out (β (w) (.cells #[.int .i64 k, .int .i64 i] 93)))
  have b4 : Below w.heap.size w (((w).alloc (.cells #[.int .i64 k, .int .i64 i] 93)).alloc (.cells #[pv g0] 36)) := (below_step (β (w) (.cells #[.int .i64 k, .int .i64 i] 93)) (β ((w).alloc (.cells #[.int .i64 k, .int .i64 i] 93)) (.cells #[pv g0] 36)))
  have K5 : Hid (B1 ρ (((w).alloc (.cells #[.int .i64 k, .int .i64 i] 93)).alloc (.cells #[pv g0] 36)) (w.heap.size) 93 #[.int .i64 k, .int .i64 i]) := κ (B1.ext (B1.mk (b := w.heap.size) (te := 93) (cs := #[.int .i64 k, .int .i64 i]) z1 (by simp)) (β ((w).alloc (.cells #[.int .i64 k, .int .i64 i] 93)) (.cells #[pv g0] 36)))
  have K6 : Hid (B1 ρ (((w).alloc (.cells #[.int .i64 k, .int .i64 i] 93)).alloc (.cells #[pv g0] 36)) (w.heap.size + 1) 36 #[pv g0]) := κ (B1.mk (b := w.heap.size + 1) (te := 36) (cs := #[pv g0]) z2 (by simp))
  have H7 := κ (Gt.ext HG.out b4)
  have H8 := κ (Ac.ext ha.out b4)
  go_upto_region 2 with fail
  obtain ⟨g9, e10⟩ : ∃ x, x = w.heap.size + 1 := ⟨_, rfl⟩
  obtain ⟨g11, e12⟩ : ∃ x, x = w.heap.size := ⟨_, rfl⟩
  simp only [← e10] at K5 K6 ⊢
  simp only [← e12] at K5 K6 ⊢
  clear e10 e12
  have F13 : Hid (Fs (· = g + 8) ρ w ρ (((w).alloc (.cells #[.int .i64 k, .int .i64 i] 93)).alloc (.cells #[pv g0] 36))) := κ (Fs.quiet b4)
  generalize ((w).alloc (.cells #[.int .i64 k, .int .i64 i] 93)).alloc (.cells #[pv g0] 36) = w1 at H7 H8 K6 K5 F13 ⊢
  clear c0
  go_wp2_with fail
  refine (take_acc g0 r.gp H7.out.new 1).mono ?_
  rintro e w16 ⟨k14, cap15, rfl, i17, b18⟩
  have H19 := κ (Gt.ext H7.out b18)
  have H20 := κ (Ac.ext H8.out b18)
  have H21 := κ (B1.ext K6.out b18)
  have H22 := κ (B1.ext K5.out b18)
  have i17 := κ i17
  have F23 := κ (F13.out.trans (Fs.quiet b18))
  go_wp2_with fail
  refine (after_acc g0 r.gp H19.out.new (.take 1) (.send k i) k14 158 cap15 #[pv g9, pv g11] i17.out ⟨_, _, rfl, H21.out, H22.out⟩).mono ?_
  rintro e w26 ⟨k24, cap25, rfl, i27, b28⟩
  have I29 := κ (IsAcc.ext i17.out b28)
  have H30 := κ (Gt.ext H19.out b28)
  have H31 := κ (Ac.ext H20.out b28)
  have H32 := κ (B1.ext H21.out b28)
  have H33 := κ (B1.ext H22.out b28)
  have i27 := κ i27
  have F34 := κ (F23.out.trans (Fs.quiet b28))
  go_wp2_with fail
  refine (free_acc g0 r.gp H30.out.new 1).mono ?_
  rintro e w37 ⟨k35, cap36, rfl, i38, b39⟩
  have I40 := κ (IsAcc.ext I29.out b39)
  have I41 := κ (IsAcc.ext i27.out b39)
  have H42 := κ (Gt.ext H30.out b39)
  have H43 := κ (Ac.ext H31.out b39)
  have H44 := κ (B1.ext H32.out b39)
  have H45 := κ (B1.ext H33.out b39)
  have i38 := κ i38
  have F46 := κ (F34.out.trans (Fs.quiet b39))
  have b48 := β (w37) (.cells #[(.func (.func k24) #[] cap25), (.func (.func k35) #[] cap36)] 126)
  have K49 := κ (Blk.fresh (w37) 126 #[(.func (.func k24) #[] cap25), (.func (.func k35) #[] cap36)])
  have H52 := κ (Gt.ext H42.out b48)
  have H53 := κ (Ac.ext H43.out b48)
  have H54 := κ (B1.ext H44.out b48)
  have H55 := κ (B1.ext H45.out b48)
  have L56 : Hid (Are (IsAcc ρ ((w37).alloc (.cells #[(.func (.func k24) #[] cap25), (.func (.func k35) #[] cap36)] 126)) g0 g r.gp) [.aft (.take 1) (.send k i), .one (.free 1)] [(.func (.func k24) #[] cap25), (.func (.func k35) #[] cap36)]) := κ (.cons (IsAcc.ext I41.out b48) (.cons (IsAcc.ext i38.out b48) (.nil)))
  have F57 := κ (F46.out.trans (Fs.quiet b48))
  go_wp2_with fail
  obtain ⟨g50, e51⟩ : ∃ x, x = w37.heap.size := ⟨_, rfl⟩
  simp only [← e51] at K49 ⊢
  clear e51 b48
  generalize ((w37).alloc (.cells #[(.func (.func k24) #[] cap25), (.func (.func k35) #[] cap36)] 126)) = w47 at H52 H53 H54 H55 L56 K49 F57 ⊢
  refine (then_any base ρ q r g0 g g50 2 G a _ _ w47 H52 H53 K49 L56 (κ rfl) (by decide) (by omega)).mono ?_
  rintro e w60 ⟨rfl, ρ58, r59, f61, H62, H63, p64⟩
  have H65 := κ (B1.fs H54.out f61 (by omega))
  have H66 := κ (B1.fs H55.out f61 (by omega))
  have H62 := κ H62
  have H63 := κ H63
  have p64 := κ p64
  have F67 := κ (Fs.trans F57.out f61)
  go_wp2_with fail
  exact bodyPost_ret (v := .tuple #[]) (by simp [results, Tryz.results117, go_sem]) rfl ⟨rfl, ρ58, r59, F67.out, H62.out, H63.out, p64.out⟩
theorem cellU {ρ : Nat → Nat} {w : World} {A : Option Addr} {l : List Int} {bu ou x : Nat} (h : Ro0 ρ w A (ints l)) (hA : A = some ⟨bu, ou, none⟩) (hx : x < l.length) : w.cell? ⟨bu, ou + x, none⟩ = some (.int .i64 (gI l x)) := by
  obtain ⟨b, o, h1, _, hc⟩ := Ris.at (i := x) h.1 hx
  rw [hA] at h1
  injection h1 with h1
  injection h1 with h2 h3
  subst h2 h3
  exact hc x hx
theorem putUsed_any (base : Nat) (ρ : Nat → Nat) (q : Gq) (r : Aq) (g0 g gp : Nat) (G : Gp) (a : Ap) (w : World) (HG : Hid (Gt base ρ w g0 q G)) (ha : Hid (Ac ρ w g0 g r a)) (hgp : r.gp = some gp) (hf : a.pu.fr = false) (hp : Hid (∀ k, k < a.pu.path.length → 0 ≤ gI a.pu.path k ∧ gI a.pu.path k < a.pu.cu.length)) (hcu : a.pu.cu.length ≤ 400) (hl : a.pu.path.length ≤ 1000) (hmax : a.todo.length ≤ 100000) :
    Calls Tryz.prog 115 #[pv g, pv gp] w (MadeT base ρ q g0 g r.gp w (.tuple #[]) G (thenA a (a.pu.path.map (fun n => .one (.store (usedW n) (gI a.pu.cu n.toNat)))))) := by
  obtain ⟨kP, oP, rP, rU⟩ := ha.out.pu gp hgp
  rw [if_neg (by rw [hf]; decide)] at rU
  have c1 : w.cell? ⟨gp, 1, none⟩ = some (.slice r.Ap a.pu.path.length r.cp) := kP.cell 1
  have RP : Hid (Ro0 ρ w r.Ap (ints a.pu.path)) := κ rP
  have HF := κ hf
  have HGP := κ hgp
  have QQ := κ kP
  have UU := κ rU.2
  obtain ⟨n, hn⟩ : ∃ n, n = a.pu.path.length := ⟨_, rfl⟩
  rw [← hn] at c1 hl
  have HN := κ hn
  clear hn kP oP rP rU hgp hf
  go_enter Tryz.func115, Tryz.ntmps115
  go_wp2_with fail
  go_loopg [11] n (fun gk s11 w' => ∃ (j : Nat) (ρj : Nat → Nat) (rj : Aq), j + gk = n ∧ s11 = .int .i64 j ∧ Hid (Gt base ρj w' g0 q G) ∧ Hid (Ac ρj w' g0 g rj (thenA a ((a.pu.path.take j).map (fun n => .one (.store (usedW n) (gI a.pu.cu n.toNat)))))) ∧ Hid (Fs (· = g + 8) ρ w ρj w') ∧ Hid (rj.gp = r.gp) ∧ Hid (Ro0 ρj w' r.Ap (ints a.pu.path)))
  case atStart => exact ⟨0, ρ, r, by omega, rfl, HG, κ (by simpa [thenA_nil] using ha.out), (κ (Fs.refl _ _ _)), κ rfl, RP⟩
  case round =>
    clear QQ UU
    obtain ⟨j, ρj, rj, hg0, rfl, Hg, Ha, Ff, Hr, Hp⟩ := hrel
    by_cases hlt : j < n
    · obtain ⟨gk', rfl⟩ : ∃ x, gk = x + 1 := ⟨gk - 1, by omega⟩
      have t0 : decide ((j : Int) < (n : Int)) = true := by simp; omega
      have hjl : j < a.pu.path.length := by rw [← HN.out]; exact hlt
      obtain ⟨b, o, hA, hb, hcc⟩ := Ris.at (i := j) Hp.out.1 hjl
      have hc := hcc j hjl
      obtain ⟨h0, h1⟩ := hp.out j hjl
      have HAP := κ hA
      have hsl : (Value.slice r.Ap n r.cp) = .slice (some ⟨b, o, none⟩) n r.cp := by rw [hA]
      obtain ⟨xn, hxn⟩ : ∃ x : Nat, gI a.pu.path j = x := ⟨(gI a.pu.path j).toNat, by omega⟩
      rw [hxn] at hc h0 h1
      have HXE := κ hxn
      have HJL := κ hjl
      have HXN : Hid (xn < a.pu.cu.length) := κ (by omega)
      obtain ⟨Q0, _, _, U0⟩ := Ha.out.pu gp (Hr.out.trans HGP.out)
      rw [if_neg (by show ¬ a.pu.fr = true; rw [HF.out]; decide)] at U0
      have U0 := κ U0.2
      have Q0 := κ Q0
      obtain ⟨bu, ou, hAU, _, _⟩ := Ris.at (i := xn) U0.out.1 HXN.out
      have HAU := κ hAU
      obtain ⟨m, hmm⟩ : ∃ m, m = a.pu.cu.length := ⟨_, rfl⟩
      have HMM := κ hmm
      have hxm : xn < m := by rw [hmm]; exact HXN.out
      have hm4 : m ≤ 400 := by rw [hmm]; exact hcu
      clear hcc hxn hb hA hjl hAU hmm h1
      simp only [hsl]
      clear hsl
      go_upto_region 3 with fail
      have bd : Below wr.heap.size wr wr.drew := (Below.refl _ _).drew
      have G1 := κ (Gt.ext Hg.out bd)
      have A1 := κ (Ac.ext Ha.out bd)
      have P1 := κ (Ro0.fs Hp.out (fx bd) id)
      have U1 := κ (Ro0.fs U0.out (fx bd) id)
      have Q1 := κ (Blk.below' Q0.out bd)
      have F1 := κ (Ff.out.trans (Fs.quiet bd))
      have l9 : Hid ((thenA a ((a.pu.path.take j).map (fun n => .one (.store (usedW n) (gI a.pu.cu n.toNat))))).todo.length + 1 ≤ 1000000) := κ (by rw [len_then, List.length_map, List.length_take]; omega)
      let T : World → Prop := fun w' => w'.cell? ⟨gp, 3, none⟩ = some (.slice (some ⟨bu, ou, none⟩) m rj.cu) ∧ w'.cell? ⟨bu, ou + xn, none⟩ = some (.int .i64 (gI a.pu.cu xn))
      have PT : Hid (T wr.drew) := κ ⟨by rw [HMM.out, ← HAU.out]; exact Q1.out.cell 3, cellU U1.out HAU.out HXN.out⟩
      clear bd U0 Q0
      refine Ω T [] ?_
      generalize wr.drew = wd at G1 A1 P1 U1 Q1 F1 PT ⊢
      refine jA 0 PT.out ?_
      refine jA 1 PT.out ?_
      refine jA 2 PT.out ?_
      refine jA 4 PT.out ?_
      refine jA 5 PT.out ?_
      refine jA 6 PT.out ?_
      refine jA 7 PT.out ?_
      refine jB 8 PT.out ?_
      refine jA 9 PT.out ?_
      refine jA 10 PT.out ?_
      refine jB 11 PT.out ?_
      refine jN 3 fun K' hK => ?_
      go_simp
      refine (usedWord_any (xn : Int) _ (by omega) (by omega)).mono ?_
      rintro e w9 ⟨rfl, rfl⟩
      refine hK.out _ _ PT.out ?_
      clear hK K'
      refine jP ?_
      refine jN 12 fun K' hK => ?_
      go_simp
      refine (store_acc g0 rj.gp G1.out.new (usedW (xn : Int)) (gI a.pu.cu xn)).mono ?_
      rintro e w1 ⟨k, cap, rfl, hi, hb1⟩
      have G2 := κ (Gt.ext G1.out hb1)
      have A2 := κ (Ac.ext A1.out hb1)
      have P2 := κ (Ro0.fs P1.out (fx hb1) id)
      have U2 := κ (Ro0.fs U1.out (fx hb1) id)
      have Q2 := κ (Blk.below' Q1.out hb1)
      have F2 := κ (F1.out.trans (Fs.quiet hb1))
      have P1T : Hid (T w1) := κ ⟨by rw [HMM.out, ← HAU.out]; exact Q2.out.cell 3, cellU U2.out HAU.out HXN.out⟩
      refine hK.out _ _ P1T.out ?_
      clear hK K'
      refine jP ?_
      refine jN 13 fun K' hK => ?_
      go_simp
      have b2 := β w1 (.cells #[.func (.func k) #[] cap] 126)
      have G3 := κ (Gt.ext G2.out b2)
      have A3 := κ (Ac.ext A2.out b2)
      have P3 := κ (Ro0.fs P2.out (fx b2) id)
      have U3 := κ (Ro0.fs U2.out (fx b2) id)
      have Q3 := κ (Blk.below' Q2.out b2)
      have F3 := κ (F2.out.trans (Fs.quiet b2))
      have L2 : Hid (Are (IsAcc ρj (w1.alloc (.cells #[.func (.func k) #[] cap] 126)) g0 g rj.gp) [(.one (.store (usedW (xn : Int)) (gI a.pu.cu xn)))] [.func (.func k) #[] cap]) := κ (.cons (IsAcc.ext hi b2) .nil)
      have K2 := κ (Blk.fresh w1 126 #[.func (.func k) #[] cap])
      obtain ⟨gw, hgw⟩ : ∃ x, x = w1.heap.size := ⟨_, rfl⟩
      simp only [← hgw] at K2 ⊢
      clear hgw b2
      generalize (w1.alloc (.cells #[.func (.func k) #[] cap] 126)) = w2 at G3 A3 P3 U3 Q3 F3 L2 K2 ⊢
      have P2T : Hid (T w2) := κ ⟨by rw [HMM.out, ← HAU.out]; exact Q3.out.cell 3, cellU U3.out HAU.out HXN.out⟩
      refine hK.out _ _ P2T.out ?_
      clear hK K'
      refine jP ?_
      refine jN 14 fun K' hK => ?_
      go_simp
      refine (then_keep base ρj q rj g0 g gw 1 G _ _ _ w2 G3 A3 K2 L2 (κ rfl) (by decide) l9.out).mono ?_
      rintro e w3 ⟨⟨rfl, ρ3, r3, f3, G4, A4, p4⟩, hkeep⟩
      have P4 := κ (Ro0.fs P3.out f3 (by omega))
      have U4 := κ (Ro0.fs U3.out f3 (by omega))
      have Q4 := κ (hkeep _ _ _ (by decide) (by decide) Q3.out)
      have F4 := κ (Fs.trans F3.out f3)
      have G4 := κ G4
      have A4 := κ A4
      have p4 := κ p4
      have P3T : Hid (T w3) := κ ⟨by rw [HMM.out, ← HAU.out]; exact Q4.out.cell 3, cellU U4.out HAU.out HXN.out⟩
      clear f3 hkeep
      refine hK.out _ _ P3T.out ?_
      clear hK K'
      refine jP ?_
      refine Δ ?_
      go_wp2_with fail
      simp only [← HAP.out]
      go_roundg gk'
      case measure => omega
      case rel => exact ⟨j + 1, ρ3, r3, by omega, by rw [Int.natCast_add]; rfl, G4, κ (by have h9 := A4.out; rw [thenA_app] at h9; have h8 := map_take (f := (fun n => .one (.store (usedW n) (gI a.pu.cu n.toNat)))) HJL.out; rw [HXE.out] at h8; rw [← h8]; exact h9), F4, κ (p4.out.trans Hr.out), P4⟩
    · have t0 : decide ((j : Int) < (n : Int)) = false := by simp; omega
      have hjn : j = n := by omega
      have hfin : Hid (Ac ρj wr g0 g rj (thenA a (a.pu.path.map (fun n => .one (.store (usedW n) (gI a.pu.cu n.toNat)))))) := κ (by have h9 := Ha.out; rw [hjn, HN.out, List.take_length] at h9; exact h9)
      clear hjn
      go_wp2_with fail
      exact bodyPost_ret (v := .tuple #[]) (by simp [results, Tryz.results115, go_sem]) rfl ⟨rfl, ρj, rj, Ff.out, Hg.out, hfin.out, Hr.out⟩
end Gx3
end Go.Proofs.YtaeddnjjeholgaaGreat
