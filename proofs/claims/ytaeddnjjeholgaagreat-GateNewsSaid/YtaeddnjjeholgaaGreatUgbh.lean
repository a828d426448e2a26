/- Texts side by side. -/
import Derived.Test.YtaeddnjjeholgaaGreatUgbg
set_option linter.unusedVariables false
set_option linter.unusedSimpArgs false
set_option maxRecDepth 100000
set_option maxHeartbeats 16000000
namespace Go.Proofs.YtaeddnjjeholgaaGreat
open Kap Lat Lax Go.ChangeShapes Go.WideShapes Go.ChangeAt Go.RowKit Go.Lib Mem Cel Bkp Bks Wpl Hpa Gpl Mdp Cfg Gow Gac Gat Gup Gex Gma Gbe Gth Gmz Gsn Gsm Glp Gx1 Gx3 Gx4 Gx5 Gre
namespace Gx6
open Gma (wpL_two)
theorem cutB1 {base : Nat} {ρ0 ρ : Nat → Nat} {w0 w w5 : World} {g0 g gs : Nat} {q : Gq} {G : Gp} {r : Aq} {a : Ap} {C : Nat → Prop} {u0 u : Value} (hG : Gt base ρ w g0 q G) (hA : Ac ρ w g0 g r a) (f : Fs C ρ0 w0 ρ w) (hb : Below w.heap.size w w5) (k : Blk w5 gs 3 #[u0]) (l : w.heap.size ≤ gs) :
    ∃ (b7 : Nat) (ρ' : Nat → Nat) (q' : Gq), Value.pointer (some ⟨gs, 0, none⟩) = .pointer (some ⟨b7, 0, none⟩) ∧ Hid (Gt base ρ' (w5.setCell ⟨gs, 0, none⟩ u) g0 q' G) ∧ Hid (Ac ρ' (w5.setCell ⟨gs, 0, none⟩ u) g0 g r a) ∧ Hid (Fs C ρ0 w0 ρ' (w5.setCell ⟨gs, 0, none⟩ u)) ∧ Hid (B1 ρ' (w5.setCell ⟨gs, 0, none⟩ u) b7 3 #[u]) := by
  have hb2 : Below w.heap.size w (w5.setCell ⟨gs, 0, none⟩ u) := hb.setCell (p := ⟨gs, 0, none⟩) l _
  exact ⟨gs, ρ, q, rfl, κ (Gt.ext hG hb2), κ (Ac.ext hA hb2), κ (f.trans (Fs.quiet hb2)), κ ⟨by simpa using blk_set k 0 u, hG.new _ l⟩⟩
theorem cutB2 {base : Nat} {ρ0 ρ : Nat → Nat} {w0 w1 w5 w : World} {g0 g gs : Nat} {q : Gq} {G : Gp} {r : Aq} {a : Ap} {C : Nat → Prop} {u0 u : Value} (hG : Gt base ρ w g0 q G) (hA : Ac ρ w g0 g r a) (f0 : Fs C ρ0 w0 ρ0 w1) (hb : Below w1.heap.size w1 w5) (f : Fs C (put ρ0 gs (gs + 8)) w5 ρ w) (k : Blk w gs 3 #[u0]) (l : gs = w1.heap.size) (l5 : gs < w5.heap.size) (ho : ρ gs = gs + 8) (hg : gs ≠ g) :
    ∃ (b7 : Nat) (ρ' : Nat → Nat) (q' : Gq), Value.pointer (some ⟨gs, 0, none⟩) = .pointer (some ⟨b7, 0, none⟩) ∧ Hid (Gt base ρ' (w.setCell ⟨gs, 0, none⟩ u) g0 q' G) ∧ Hid (Ac ρ' (w.setCell ⟨gs, 0, none⟩ u) g0 g r a) ∧ Hid (Fs C ρ0 w0 ρ' (w.setCell ⟨gs, 0, none⟩ u)) ∧ Hid (B1 ρ' (w.setCell ⟨gs, 0, none⟩ u) b7 3 #[u]) := by
  have fs : Fs (· = gs + 8) ρ w ρ (w.setCell ⟨gs, 0, none⟩ u) := Fs.set _ _ _ _ _ _ ho
  have hl : gs < w.heap.size := k.lt
  have hs : (w.setCell ⟨gs, 0, none⟩ u).heap.size = w.heap.size := by simp [World.setCell]
  have g1 := Gt.fs hG fs (fun i hi => hG.new i (by omega)) (fun i hi => by omega)
  have a1 := Ac.fs hA fs (by omega) (by omega)
  have re := Re.put ρ gs (gs + 8) 0 ho
  have hn : ∀ i, (w.setCell ⟨gs, 0, none⟩ u).heap.size ≤ i → put ρ gs 0 i = 0 := fun i hi => by rw [put_ne (by omega)]; exact hG.new i (by omega)
  have hc : ∀ i, put ρ gs 0 i < (w.setCell ⟨gs, 0, none⟩ u).heap.size + 8 := put_cap (by omega) g1.cap
  refine ⟨gs, put ρ gs 0, q, rfl, κ (Gt.re g1 re (by omega) hn hc), κ (Ac.re a1 re (by omega) (by omega)), κ ⟨fun i hi => ?_, ?_, ?_, ?_, ?_, fun i hi hci => ?_, fun N hN h => ?_⟩, κ ⟨by simpa using blk_set k 0 u, put_at⟩⟩
  · have s0 := f0.size
    rw [put_ne (by omega), f.own i (Nat.lt_of_lt_of_le hi (Nat.le_trans s0 hb.size)), put_ne (by omega)]
  · exact f.os.trans (hb.os.trans f0.os)
  · exact f.tape.trans (hb.tape.trans f0.tape)
  · exact f.output.trans (hb.output.trans f0.output)
  · rw [hs]; exact Nat.le_trans f0.size (Nat.le_trans hb.size f.size)
  · have s0 := f0.size
    have e1 := f0.block i hi hci
    have e2 := hb.block i (Nat.lt_of_lt_of_le hi s0)
    have e3 := f.block i (Nat.lt_of_lt_of_le hi (Nat.le_trans s0 hb.size)) (by rw [put_ne (by omega)]; exact hci)
    have e4 : (w.setCell ⟨gs, 0, none⟩ u).heap[i]? = w.heap[i]? := Below.heap_setCell w ⟨gs, 0, none⟩ u i (by show i ≠ gs; omega)
    exact e4.trans (e3.trans (e2.trans e1))
  · rw [hs] at hN
    exact put_cap (by omega) (f.cap N hN (put_cap (by have := f.size; omega) h))
theorem turn_any (base : Nat) (ρ : Nat → Nat) (q : Gq) (r : Aq) (g0 g kd : Nat) (capd : Array Value) (ep : Int) (off : Bool) (d : Dn) (G : Gp) (a : Ap) (w : World) (HG : Hid (Gt base ρ w g0 q G)) (ha : Hid (Ac ρ w g0 g r a)) (hmax : a.todo.length ≤ 100000) (h0 : 0 ≤ ep) (h1 : ep ≤ 2305843009213693952) (hd : IsDn ρ w g0 g r.gp d (.func (.func kd) #[] capd)) :
    Calls Tryz.prog 133 #[pv g, .agg #[.int .i64 ep, .bool off], .func (.func kd) #[] capd] w (MadeT base ρ q g0 g r.gp w (.tuple #[]) G (thenA a (turnL ep off d))) := by
  have hmf := Gmk.make_f
  have HD := κ hd
  go_enter Tryz.func133, Tryz.ntmps133
  have z101 := HG.out.new
  have z102 := new_alloc (o := .cells #[pv g] 46) z101
  have z103 := new_alloc (o := .cells #[.int .i64 ep, .bool off] 178) z102
  have b104 : Below w.heap.size w ((((w).alloc (.cells #[pv g] 46)).alloc (.cells #[.int .i64 ep, .bool off] 178)).drew) := (below_step (β (w) (.cells #[pv g] 46)) (β ((w).alloc (.cells #[pv g] 46)) (.cells #[.int .i64 ep, .bool off] 178))).drew
  have K105 : Hid (B1 ρ ((((w).alloc (.cells #[pv g] 46)).alloc (.cells #[.int .i64 ep, .bool off] 178)).drew) (w.heap.size) 46 #[pv g]) := κ (B1.ext (B1.ext (B1.mk (b := w.heap.size) (te := 46) (cs := #[pv g]) z101 (by simp)) (β ((w).alloc (.cells #[pv g] 46)) (.cells #[.int .i64 ep, .bool off] 178))) (Below.refl _ _).drew)
  have K106 : Hid (B1 ρ ((((w).alloc (.cells #[pv g] 46)).alloc (.cells #[.int .i64 ep, .bool off] 178)).drew) (w.heap.size + 1) 178 #[.int .i64 ep, .bool off]) := κ (B1.ext (B1.mk (b := w.heap.size + 1) (te := 178) (cs := #[.int .i64 ep, .bool off]) z102 (by simp)) (Below.refl _ _).drew)
  have H107 := κ (Gt.ext HG.out b104)
  have H108 := κ (Ac.ext ha.out b104)
  have H109 := κ (IsDn.ext HD.out b104)
  go_upto_region 2 with fail
  obtain ⟨g110, e111⟩ : ∃ x, x = w.heap.size + 1 := ⟨_, rfl⟩
  obtain ⟨g112, e113⟩ : ∃ x, x = w.heap.size := ⟨_, rfl⟩
  simp only [← e111] at K105 K106 ⊢
  simp only [← e113] at K105 K106 ⊢
  clear e111 e113
  have F114 : Hid (Fs (· = g + 8) ρ w ρ ((((w).alloc (.cells #[pv g] 46)).alloc (.cells #[.int .i64 ep, .bool off] 178)).drew)) := κ (Fs.quiet b104)
  let T115 : World → Prop := fun w' => w'.cell? ⟨g112, 0, none⟩ = some (.pointer (some ⟨g, 0, none⟩)) ∧ w'.cell? ⟨g110, 0, none⟩ = some (.int .i64 ep) ∧ w'.cell? ⟨g110, 1, none⟩ = some (.bool off)
  have P116 : Hid (T115 (((w).alloc (.cells #[pv g] 46)).alloc (.cells #[.int .i64 ep, .bool off] 178)).drew) := κ ⟨(K105.out.1.cell 0), (K106.out.1.cell 0), (K106.out.1.cell 1)⟩
  refine Ω T115 [] ?_
  generalize (((w).alloc (.cells #[pv g] 46)).alloc (.cells #[.int .i64 ep, .bool off] 178)).drew = wd at H107 H108 K106 K105 H109 F114 P116 ⊢
  refine jB 0 P116.out ?_
  refine jB 1 P116.out ?_
  refine jB 2 P116.out ?_
  refine jA 5 P116.out ?_
  refine jB 7 P116.out ?_
  refine jA 9 P116.out ?_
  refine jN 3 fun K' hK => ?_
  go_simp
  refine (word_any ep off wd h0 h1).mono ?_
  rintro e w117 ⟨rfl, b118⟩
  have H119 := κ (Gt.ext H107.out b118)
  have H120 := κ (Ac.ext H108.out b118)
  have H121 := κ (B1.ext K106.out b118)
  have H122 := κ (B1.ext K105.out b118)
  have H123 := κ (IsDn.ext H109.out b118)
  have F124 := κ (F114.out.trans (Fs.quiet b118))
  have P125 : Hid (T115 w117) := κ ⟨(H122.out.1.cell 0), (H121.out.1.cell 0), (H121.out.1.cell 1)⟩
  refine hK.out _ _ P125.out ?_
  clear hK K'
  refine jP ?_
  refine jN 4 fun K' hK => ?_
  go_simp
  refine (store_acc g0 r.gp H119.out.new 0 (wordF ep off)).mono ?_
  rintro e w128 ⟨k126, cap127, rfl, i129, b130⟩
  have H131 := κ (Gt.ext H119.out b130)
  have H132 := κ (Ac.ext H120.out b130)
  have H133 := κ (B1.ext H121.out b130)
  have H134 := κ (B1.ext H122.out b130)
  have H135 := κ (IsDn.ext H123.out b130)
  have i129 := κ i129
  have F136 := κ (F124.out.trans (Fs.quiet b130))
  have P137 : Hid (T115 w128) := κ ⟨(H134.out.1.cell 0), (H133.out.1.cell 0), (H133.out.1.cell 1)⟩
  refine hK.out _ _ P137.out ?_
  clear hK K'
  refine jP ?_
  refine jN 6 fun K' hK => ?_
  go_simp
  refine (after_acc g0 r.gp H131.out.new (.store 0 (wordF ep off)) .mark k126 168 cap127 #[pv g112] i129.out (.inl ⟨_, rfl, H134.out⟩)).mono ?_
  rintro e w140 ⟨k138, cap139, rfl, i141, b142⟩
  have I143 := κ (IsAcc.ext i129.out b142)
  have H144 := κ (Gt.ext H131.out b142)
  have H145 := κ (Ac.ext H132.out b142)
  have H146 := κ (B1.ext H133.out b142)
  have H147 := κ (B1.ext H134.out b142)
  have H148 := κ (IsDn.ext H135.out b142)
  have i141 := κ i141
  have F149 := κ (F136.out.trans (Fs.quiet b142))
  have P150 : Hid (T115 w140) := κ ⟨(H147.out.1.cell 0), (H146.out.1.cell 0), (H146.out.1.cell 1)⟩
  refine hK.out _ _ P150.out ?_
  clear hK K'
  refine jP ?_
  refine jN 8 fun K' hK => ?_
  go_simp
  refine (free_acc g0 r.gp H144.out.new 0).mono ?_
  rintro e w153 ⟨k151, cap152, rfl, i154, b155⟩
  have I156 := κ (IsAcc.ext I143.out b155)
  have I157 := κ (IsAcc.ext i141.out b155)
  have H158 := κ (Gt.ext H144.out b155)
  have H159 := κ (Ac.ext H145.out b155)
  have H160 := κ (B1.ext H146.out b155)
  have H161 := κ (B1.ext H147.out b155)
  have H162 := κ (IsDn.ext H148.out b155)
  have i154 := κ i154
  have F163 := κ (F149.out.trans (Fs.quiet b155))
  have P164 : Hid (T115 w153) := κ ⟨(H161.out.1.cell 0), (H160.out.1.cell 0), (H160.out.1.cell 1)⟩
  refine hK.out _ _ P164.out ?_
  clear hK K'
  refine jP ?_
  refine jN 10 fun K' hK => ?_
  go_simp
  refine (after_acc g0 r.gp H158.out.new (.free 0) d k151 kd cap152 capd i154.out H162.out).mono ?_
  rintro e w167 ⟨k165, cap166, rfl, i168, b169⟩
  have I170 := κ (IsAcc.ext I156.out b169)
  have I171 := κ (IsAcc.ext I157.out b169)
  have I172 := κ (IsAcc.ext i154.out b169)
  have H173 := κ (Gt.ext H158.out b169)
  have H174 := κ (Ac.ext H159.out b169)
  have H175 := κ (B1.ext H160.out b169)
  have H176 := κ (B1.ext H161.out b169)
  have H177 := κ (IsDn.ext H162.out b169)
  have i168 := κ i168
  have F178 := κ (F163.out.trans (Fs.quiet b169))
  have P179 : Hid (T115 w167) := κ ⟨(H176.out.1.cell 0), (H175.out.1.cell 0), (H175.out.1.cell 1)⟩
  refine hK.out _ _ P179.out ?_
  clear hK K'
  refine jP ?_
  refine jN 11 fun K' hK => ?_
  go_simp
  have b181 := β (w167) (.cells #[(.func (.func k138) #[] cap139), (.func (.func k165) #[] cap166)] 126)
  have K182 := κ (Blk.fresh (w167) 126 #[(.func (.func k138) #[] cap139), (.func (.func k165) #[] cap166)])
  have H185 := κ (Gt.ext H173.out b181)
  have H186 := κ (Ac.ext H174.out b181)
  have H187 := κ (B1.ext H175.out b181)
  have H188 := κ (B1.ext H176.out b181)
  have H189 := κ (IsDn.ext H177.out b181)
  have L190 : Hid (Are (IsAcc ρ ((w167).alloc (.cells #[(.func (.func k138) #[] cap139), (.func (.func k165) #[] cap166)] 126)) g0 g r.gp) [.aft (.store 0 (wordF ep off)) .mark, .aft (.free 0) d] [(.func (.func k138) #[] cap139), (.func (.func k165) #[] cap166)]) := κ (.cons (IsAcc.ext I171.out b181) (.cons (IsAcc.ext i168.out b181) (.nil)))
  obtain ⟨g183, e184⟩ : ∃ x, x = w167.heap.size := ⟨_, rfl⟩
  simp only [← e184] at K182 ⊢
  clear e184
  have F191 := κ (F178.out.trans (Fs.quiet b181))
  generalize (w167).alloc (.cells #[(.func (.func k138) #[] cap139), (.func (.func k165) #[] cap166)] 126) = w180 at H185 H186 H187 H188 H189 L190 K182 F191 ⊢
  have P192 : Hid (T115 w180) := κ ⟨(H188.out.1.cell 0), (H187.out.1.cell 0), (H187.out.1.cell 1)⟩
  refine hK.out _ _ P192.out ?_
  clear hK K'
  refine jP ?_
  refine jN 12 fun K' hK => ?_
  go_simp
  refine (then_any base ρ q r g0 g g183 2 G a _ _ w180 H185 H186 K182 L190 (κ rfl) (by decide) (by omega)).mono ?_
  rintro e w195 ⟨rfl, ρ193, r194, f196, H197, H198, p199⟩
  have H200 := κ (B1.fs H187.out f196 (by omega))
  have H201 := κ (B1.fs H188.out f196 (by omega))
  have H197 := κ H197
  have H198 := κ H198
  have p199 := κ p199
  have F203 := κ (Fs.trans F191.out f196)
  have P204 : Hid (T115 w195) := κ ⟨(H201.out.1.cell 0), (H200.out.1.cell 0), (H200.out.1.cell 1)⟩
  refine hK.out _ _ P204.out ?_
  clear hK K'
  refine jP ?_
  refine Δ ?_
  go_wp2_with fail
  exact bodyPost_ret (v := .tuple #[]) (by simp [results, Tryz.results133, go_sem]) rfl ⟨rfl, ρ193, r194, F203.out, H197.out, H198.out, p199.out⟩
theorem kill1_any (base : Nat) (ρ : Nat → Nat) (q : Gq) (r : Aq) (g0 g b1 : Nat) (v : Int) (G : Gp) (a : Ap) (w : World) (HG : Hid (Gt base ρ w g0 q G)) (ha : Hid (Ac ρ w g0 g r a)) (hmax : a.todo.length ≤ 100000) (h0 : 0 ≤ v) (h1 : v ≤ 4611686018427387904) (ka : B1 ρ w b1 46 #[pv g]) :
    Calls Tryz.prog 131 #[.int .i64 v, pv b1] w (MadeT base ρ q g0 g r.gp w (.tuple #[]) G (thenA a (turnL (epW v) true (.swp0 (epW v))))) := by
  have hmf := Gmk.make_f
  have HA1 := κ ka
  have e0 : 0 ≤ epW v := by unfold epW; omega
  have e1 : epW v ≤ 2305843009213693952 := by unfold epW; omega
  go_enter Tryz.func131, Tryz.ntmps131
  go_wp2_with fail
  refine (positionOf_any v w h0 h1).mono ?_
  rintro e w2 ⟨rfl, hb2⟩
  have H101 := κ (Gt.ext HG.out hb2)
  have H102 := κ (Ac.ext ha.out hb2)
  have H103 := κ (B1.ext HA1.out hb2)
  have F104 := κ ((κ (Fs.refl (· = g + 8) ρ w)).out.trans (Fs.quiet hb2))
  have fld : ∀ W, (Instr.field 178 (.agg #[.int .i64 (epW v), .bool (offW v)]) 0).run Tryz.prog W = .ok (.int .i64 (epW v)) W := fun W => by kernel_rfl
  obtain ⟨ep, hep⟩ : ∃ y, y = epW v := ⟨_, rfl⟩
  rw [← hep] at e0 e1 fld ⊢
  have HEP := κ hep
  clear hep
  have b3 := β w2 (.cells #[.int .i64 ep] 2)
  have KE : Hid (B1 ρ (w2.alloc (.cells #[.int .i64 ep] 2)) w2.heap.size 2 #[.int .i64 ep]) := κ (B1.mk H101.out.new rfl)
  have H105 := κ (Gt.ext H101.out b3)
  have H106 := κ (Ac.ext H102.out b3)
  have H107 := κ (B1.ext H103.out b3)
  have F108 := κ (F104.out.trans (Fs.quiet b3))
  go_upto_region 1 with fail
  obtain ⟨ge, hge⟩ : ∃ y, y = w2.heap.size := ⟨_, rfl⟩
  simp only [← hge] at KE ⊢
  clear hge b3 fld
  generalize (w2.alloc (.cells #[.int .i64 ep] 2)) = w3 at H105 H106 H107 F108 KE ⊢
  have y1 := H107.out.1.cell 0
  have y2 := KE.out.1.cell 0
  simp at y1 y2
  go_wp2_with fail
  refine (turn_any base ρ q r g0 g 134 #[pv b1, pv ge] ep true (.swp0 ep) G a w3 H105 H106 hmax e0 e1 ⟨_, _, rfl, H107.out, KE.out⟩).mono ?_
  rintro e w4 hT
  have hT := κ hT
  obtain ⟨rfl, _⟩ := hT.out
  go_wp2_with fail
  exact bodyPost_ret (v := .tuple #[]) (by simp [results, Tryz.results131, go_sem]) rfl (by rw [← HEP.out]; exact Gli.MadeT.from hT.out F108.out rfl)
theorem sweep_any (base : Nat) (ρ : Nat → Nat) (q : Gq) (r : Aq) (g0 g : Nat) (x ep : Int) (G : Gp) (a : Ap) (w : World) (HG : Hid (Gt base ρ w g0 q G)) (ha : Hid (Ac ρ w g0 g r a)) (hmax : a.todo.length ≤ 100000) (hV : Vs G) (hll : G.log.length ≤ 1000000) (hbl : G.bs.length ≤ 1000) :
    Calls Tryz.prog 135 #[pv g, .int .i64 x, .int .i64 ep] w (MadeI base (fun c => c = 1 ∨ c = 5 ∨ c = g + 8) ρ g0 g r.gp w (.tuple #[]) (sweepA G a x ep).1 (sweepA G a x ep).2) := by
  have hmf := Gmk.make_f
  go_enter Tryz.func135, Tryz.ntmps135
  have z101 := HG.out.new
  have z102 := new_alloc (o := .cells #[pv g] 46) z101
  have z103 := new_alloc (o := .cells #[.int .i64 x] 3) z102
  have z104 := new_alloc (o := .cells #[.int .i64 ep] 2) z103
  have z105 := new_alloc (o := .cells #[pv g0] 36) z104
  have c2 := Ac.c0 (Ac.ext ha.out (below_step (below_step (β (w) (.cells #[pv g] 46)) (β ((w).alloc (.cells #[pv g] 46)) (.cells #[.int .i64 x] 3))) (β (((w).alloc (.cells #[pv g] 46)).alloc (.cells #[.int .i64 x] 3)) (.cells #[.int .i64 ep] 2))))
  have b106 : Below w.heap.size w ((((((w).alloc (.cells #[pv g] 46)).alloc (.cells #[.int .i64 x] 3)).alloc (.cells #[.int .i64 ep] 2)).alloc (.cells #[pv g0] 36)).drew) := (below_step (below_step (below_step (β (w) (.cells #[pv g] 46)) (β ((w).alloc (.cells #[pv g] 46)) (.cells #[.int .i64 x] 3))) (β (((w).alloc (.cells #[pv g] 46)).alloc (.cells #[.int .i64 x] 3)) (.cells #[.int .i64 ep] 2))) (β ((((w).alloc (.cells #[pv g] 46)).alloc (.cells #[.int .i64 x] 3)).alloc (.cells #[.int .i64 ep] 2)) (.cells #[pv g0] 36))).drew
  have K107 : Hid (B1 ρ ((((((w).alloc (.cells #[pv g] 46)).alloc (.cells #[.int .i64 x] 3)).alloc (.cells #[.int .i64 ep] 2)).alloc (.cells #[pv g0] 36)).drew) (w.heap.size) 46 #[pv g]) := κ (B1.ext (B1.ext (B1.mk (b := w.heap.size) (te := 46) (cs := #[pv g]) z101 (by simp)) (below_step (below_step (β ((w).alloc (.cells #[pv g] 46)) (.cells #[.int .i64 x] 3)) (β (((w).alloc (.cells #[pv g] 46)).alloc (.cells #[.int .i64 x] 3)) (.cells #[.int .i64 ep] 2))) (β ((((w).alloc (.cells #[pv g] 46)).alloc (.cells #[.int .i64 x] 3)).alloc (.cells #[.int .i64 ep] 2)) (.cells #[pv g0] 36)))) (Below.refl _ _).drew)
  have K108 : Hid (B1 ρ ((((((w).alloc (.cells #[pv g] 46)).alloc (.cells #[.int .i64 x] 3)).alloc (.cells #[.int .i64 ep] 2)).alloc (.cells #[pv g0] 36)).drew) (w.heap.size + 1) 3 #[.int .i64 x]) := κ (B1.ext (B1.ext (B1.mk (b := w.heap.size + 1) (te := 3) (cs := #[.int .i64 x]) z102 (by simp)) (below_step (β (((w).alloc (.cells #[pv g] 46)).alloc (.cells #[.int .i64 x] 3)) (.cells #[.int .i64 ep] 2)) (β ((((w).alloc (.cells #[pv g] 46)).alloc (.cells #[.int .i64 x] 3)).alloc (.cells #[.int .i64 ep] 2)) (.cells #[pv g0] 36)))) (Below.refl _ _).drew)
  have K109 : Hid (B1 ρ ((((((w).alloc (.cells #[pv g] 46)).alloc (.cells #[.int .i64 x] 3)).alloc (.cells #[.int .i64 ep] 2)).alloc (.cells #[pv g0] 36)).drew) (w.heap.size + 1 + 1) 2 #[.int .i64 ep]) := κ (B1.ext (B1.ext (B1.mk (b := w.heap.size + 1 + 1) (te := 2) (cs := #[.int .i64 ep]) z103 (by simp)) (β ((((w).alloc (.cells #[pv g] 46)).alloc (.cells #[.int .i64 x] 3)).alloc (.cells #[.int .i64 ep] 2)) (.cells #[pv g0] 36))) (Below.refl _ _).drew)
  have K110 : Hid (B1 ρ ((((((w).alloc (.cells #[pv g] 46)).alloc (.cells #[.int .i64 x] 3)).alloc (.cells #[.int .i64 ep] 2)).alloc (.cells #[pv g0] 36)).drew) (w.heap.size + 1 + 1 + 1) 36 #[pv g0]) := κ (B1.ext (B1.mk (b := w.heap.size + 1 + 1 + 1) (te := 36) (cs := #[pv g0]) z104 (by simp)) (Below.refl _ _).drew)
  have H111 := κ (Gt.ext HG.out b106)
  have H112 := κ (Ac.ext ha.out b106)
  go_upto_region 2 with fail
  obtain ⟨g113, e114⟩ : ∃ x, x = w.heap.size + 1 + 1 + 1 := ⟨_, rfl⟩
  obtain ⟨g115, e116⟩ : ∃ x, x = w.heap.size + 1 + 1 := ⟨_, rfl⟩
  obtain ⟨g117, e118⟩ : ∃ x, x = w.heap.size + 1 := ⟨_, rfl⟩
  obtain ⟨g119, e120⟩ : ∃ x, x = w.heap.size := ⟨_, rfl⟩
  simp only [← e114] at K107 K108 K109 K110 ⊢
  simp only [← e116] at K107 K108 K109 K110 ⊢
  simp only [← e118] at K107 K108 K109 K110 ⊢
  simp only [← e120] at K107 K108 K109 K110 ⊢
  clear e114 e116 e118 e120
  have F121 : Hid (Fs (· = g + 8) ρ w ρ ((((((w).alloc (.cells #[pv g] 46)).alloc (.cells #[.int .i64 x] 3)).alloc (.cells #[.int .i64 ep] 2)).alloc (.cells #[pv g0] 36)).drew)) := κ (Fs.quiet b106)
  clear c2
  obtain ⟨nb, hnb⟩ : ∃ n, n = G.bs.length := ⟨_, rfl⟩
  have HNB := κ hnb
  have hnb1 : nb ≤ 1000 := by rw [hnb]; exact hbl
  clear hnb
  let T122 : World → Prop := fun w' => w'.cell? ⟨g113, 0, none⟩ = some (.pointer (some ⟨g0, 0, none⟩)) ∧ w'.cell? ⟨g0, 8, none⟩ = some (.slice q.Ab nb q.cb) ∧ w'.cell? ⟨g117, 0, none⟩ = some (.int .i64 x)
  have P123 : Hid (T122 (((((w).alloc (.cells #[pv g] 46)).alloc (.cells #[.int .i64 x] 3)).alloc (.cells #[.int .i64 ep] 2)).alloc (.cells #[pv g0] 36)).drew) := κ ⟨(K110.out.1.cell 0), (by rw [HNB.out]; exact (Gt.c8 H111.out :)), (K108.out.1.cell 0)⟩
  refine Ω T122 [] ?_
  generalize (((((w).alloc (.cells #[pv g] 46)).alloc (.cells #[.int .i64 x] 3)).alloc (.cells #[.int .i64 ep] 2)).alloc (.cells #[pv g0] 36)).drew = wd at H111 H112 K110 K109 K108 K107 F121 P123 ⊢
  refine jB 0 P123.out ?_
  refine jA 1 P123.out ?_
  refine jA 2 P123.out ?_
  refine jB 3 P123.out ?_
  refine jB 4 P123.out ?_
  refine jN 5 fun K' hK => ?_
  go_simp
  refine (hasK_any q.Ab nb q.cb x wd).mono ?_
  rintro e w9 ⟨rfl, rfl⟩
  refine hK.out _ _ P123.out ?_
  clear hK K'
  refine jP ?_
  refine jA 6 P123.out ?_
  refine Δ ?_
  cases hin : inR nb x
  case false =>
    have HSW : sweepA G a x ep = (G, { a with d := ep }) := if_neg (by rw [← HNB.out, hin]; decide)
    have HSW := κ HSW
    have y0 := Ac.c5 H112.out
    have y1 := Ac.z H112.out 5
    have HS := κ (Ac.set H112.out 5 (.int .i64 ep) { a with d := ep } rfl rfl rfl)
    have y124 := K107.out.1.cell 0
    simp at y124
    have y125 := K109.out.1.cell 0
    simp at y125
    go_wp2_with fail
    exact bodyPost_ret (v := .tuple #[]) (by simp [results, Tryz.results135, go_sem]) rfl (by rw [HSW.out]; exact ⟨rfl, ρ, q, r, F121.out.mono (fun _ h => .inr (.inr h)) |>.trans (HS.out.2.mono fun _ h => .inr (.inr h)), Gt.fs H111.out HS.out.2 (fun k hk => H111.out.new k (by simpa [World.setCell] using hk)) (fun i hi => by omega), HS.out.1, rfl⟩)
  case true =>
    have hx := inR_of hin
    have HSW : sweepA G a x ep = (beginG G a.who m0 true x ep, thenA a [.one (.take (shL x)), .one (.load 0 (.look G.log.length (.sweep x ep G.log.length)))]) := if_pos (by rw [← HNB.out, hin])
    have HSW := κ HSW
    go_upto_region 4 with fail
    go_cut [7] (fun s7 wx => ∃ (b7 : Nat) (ρ' : Nat → Nat) (q' : Gq), s7 = .pointer (some ⟨b7, 0, none⟩) ∧ Hid (Gt base ρ' wx g0 q' (beginG G a.who m0 true x ep)) ∧ Hid (Ac ρ' wx g0 g r a) ∧ Hid (Fs (fun c => c = 1 ∨ c = 5) ρ wd ρ' wx) ∧ Hid (B1 ρ' wx b7 3 #[.int .i64 (G.log.length : Int)]))
    case first =>
      have hb9 : Below wd.heap.size wd wd.drew := (Below.refl _ _).drew
      have HB9 := κ hb9
      have H126 := κ (Gt.ext H111.out hb9)
      have H127 := κ (Ac.ext H112.out hb9)
      have H128 := κ (B1.ext K110.out hb9)
      have H129 := κ (B1.ext K109.out hb9)
      have H130 := κ (B1.ext K108.out hb9)
      have H131 := κ (B1.ext K107.out hb9)
      let T132 : World → Prop := fun w' => w'.cell? ⟨g113, 0, none⟩ = some (.pointer (some ⟨g0, 0, none⟩)) ∧ w'.cell? ⟨g119, 0, none⟩ = some (.pointer (some ⟨g, 0, none⟩)) ∧ w'.cell? ⟨g, 1, none⟩ = some (.int .i64 a.who) ∧ w'.cell? ⟨g117, 0, none⟩ = some (.int .i64 x) ∧ w'.cell? ⟨g115, 0, none⟩ = some (.int .i64 ep)
      have P133 : Hid (T132 wd.drew) := κ ⟨(H128.out.1.cell 0), (H131.out.1.cell 0), (Ac.c1 H127.out :), (H130.out.1.cell 0), (H129.out.1.cell 0)⟩
      refine Ω T132 [10] ?_
      generalize wd.drew = wd at H126 H127 H128 H129 H130 H131 HB9 P133 ⊢
      refine jB 0 P133.out ?_
      refine jB 1 P133.out ?_
      refine jA 2 P133.out ?_
      refine jA 3 P133.out ?_
      refine jB 4 P133.out ?_
      refine jB 5 P133.out ?_
      refine jB 6 P133.out ?_
      refine jA 7 P133.out ?_
      refine wpL_two (m := 8) (n := 9) (by kernel_rfl) rfl rfl ?_ ?_
      · intro K' hK
        go_simp
        refine (begin_any base ρ q g0 a.who m0 true x ep G wd H126 hV hll).mono ?_
        rintro e w4 ⟨rfl, ρ4, q4, G4, f4⟩
        have G4 := κ G4
        have A4 := κ (Ac.fs H127.out f4 (by omega) (by decide))
        have Xg := κ (B1.fs H128.out f4 (by decide))
        have Xa := κ (B1.fs H131.out f4 (by decide))
        have Xs := κ (B1.fs H130.out f4 (by decide))
        have Xe := κ (B1.fs H129.out f4 (by decide))
        have f4 := κ f4
        have P4 : Hid (T132 w4) := κ ⟨Xg.out.1.cell 0, Xa.out.1.cell 0, (Ac.c1 A4.out :), Xs.out.1.cell 0, Xe.out.1.cell 0⟩
        refine hK.out _ _ P4.out ?_
        clear hK K'
        refine jP ?_
        refine jN 9 fun K' hK => ?_
        go_simp
        have b5 := β w4 (.cells #[.int .i64 0] 3)
        have A5 := κ (Ac.ext A4.out b5)
        have Yg := κ (B1.ext Xg.out b5)
        have Ya := κ (B1.ext Xa.out b5)
        have Ys := κ (B1.ext Xs.out b5)
        have Ye := κ (B1.ext Xe.out b5)
        have P5 : Hid (T132 (w4.alloc (.cells #[.int .i64 0] 3))) := κ ⟨Yg.out.1.cell 0, Ya.out.1.cell 0, (Ac.c1 A5.out :), Ys.out.1.cell 0, Ye.out.1.cell 0⟩
        have K5 := κ (Blk.fresh w4 3 #[.int .i64 0])
        have b5 := κ b5
        obtain ⟨gs, hgs⟩ : ∃ y, y = w4.heap.size := ⟨_, rfl⟩
        have HGS := κ (Nat.le_of_eq hgs.symm)
        simp only [← hgs] at K5 ⊢
        clear hgs
        generalize w4.alloc (.cells #[.int .i64 0] 3) = w5 at P5 K5 b5 ⊢
        have y0 := K5.out.cell 0
        have y1 := K5.out.thaw 0
        simp at y0
        refine hK.out _ _ P5.out ?_
        clear hK K'
        refine jP ?_
        refine jV 10 fun K' hK => ?_
        go_simp
        refine hK.out _ _ ?_
        clear hK K'
        refine jP ?_
        refine Δ ?_
        go_wp2_with fail
        go_meet
        exact cutB1 G4.out A4.out ((Fs.quiet HB9.out).trans f4.out) b5.out K5.out HGS.out
      · intro K' hK
        go_simp
        have b5 := β wd (.cells #[.int .i64 0] 3)
        have fa : Fs No ρ wd (put ρ wd.heap.size (wd.heap.size + 8)) (wd.alloc (.cells #[.int .i64 0] 3)) := Fs.put b5 (Nat.le_refl _) _ (by simp)
        have za : ∀ k, (wd.alloc (.cells #[.int .i64 0] 3)).heap.size ≤ k → put ρ wd.heap.size (wd.heap.size + 8) k = 0 := fun k hk => by simp only [World.size_alloc] at hk; rw [put_ne (by omega)]; exact H126.out.new k (by omega)
        have G5 := κ (Gt.fs H126.out fa za (fun _ _ h => h))
        have A5 := κ (Ac.fs H127.out fa id id)
        have HNG : Hid (wd.heap.size ≠ g) := κ (by have := H127.out.blk.lt; omega)
        have Yg := κ (B1.fs H128.out fa id)
        have Ya := κ (B1.fs H131.out fa id)
        have Ys := κ (B1.fs H130.out fa id)
        have Ye := κ (B1.fs H129.out fa id)
        have P5 : Hid (T132 (wd.alloc (.cells #[.int .i64 0] 3))) := κ ⟨Yg.out.1.cell 0, Ya.out.1.cell 0, (Ac.c1 A5.out :), Ys.out.1.cell 0, Ye.out.1.cell 0⟩
        have K5 := κ (Blk.fresh wd 3 #[.int .i64 0])
        have b5 := κ b5
        have R5 : Hid (put ρ wd.heap.size (wd.heap.size + 8) wd.heap.size = wd.heap.size + 8) := κ put_at
        clear fa za
        obtain ⟨gs, hgs⟩ : ∃ y, y = wd.heap.size := ⟨_, rfl⟩
        have HGS := κ hgs
        simp only [← hgs] at G5 A5 K5 R5 HNG Yg Ya Ys Ye ⊢
        clear hgs
        generalize wd.alloc (.cells #[.int .i64 0] 3) = w5 at P5 K5 b5 G5 A5 Yg Ya Ys Ye ⊢
        refine hK.out _ _ P5.out ?_
        clear hK K'
        refine jP ?_
        refine jN 8 fun K' hK => ?_
        go_simp
        refine (begin_any base (put ρ gs (gs + 8)) q g0 a.who m0 true x ep G w5 G5 hV hll).mono ?_
        rintro e w4 ⟨rfl, ρ4, q4, G4, f4⟩
        have G4 := κ G4
        have A4 := κ (Ac.fs A5.out f4 (by omega) (by decide))
        have K4 := κ (f4.blk K5.out (by rw [R5.out]; omega))
        have R4 := κ (f4.keep K5.out.lt R5.out)
        have Xg := κ (B1.fs Yg.out f4 (by decide))
        have Xa := κ (B1.fs Ya.out f4 (by decide))
        have Xs := κ (B1.fs Ys.out f4 (by decide))
        have Xe := κ (B1.fs Ye.out f4 (by decide))
        have f4 := κ f4
        have P4 : Hid (T132 w4) := κ ⟨Xg.out.1.cell 0, Xa.out.1.cell 0, (Ac.c1 A4.out :), Xs.out.1.cell 0, Xe.out.1.cell 0⟩
        have y0 := K4.out.cell 0
        have y1 := K4.out.thaw 0
        simp at y0
        refine hK.out _ _ P4.out ?_
        clear hK K'
        refine jP ?_
        refine jV 10 fun K' hK => ?_
        go_simp
        refine hK.out _ _ ?_
        clear hK K'
        refine jP ?_
        refine Δ ?_
        go_wp2_with fail
        go_meet
        exact cutB2 G4.out A4.out (Fs.quiet HB9.out) b5.out f4.out K4.out HGS.out K5.out.lt R4.out HNG.out
    case rest =>
      obtain ⟨b7, ρ5, q5, rfl, G5, A5, f5, K7⟩ := hcut
      rename World => w6
      have H174 := κ (B1.fs K110.out f5.out (by decide))
      have H175 := κ (B1.fs K109.out f5.out (by decide))
      have H176 := κ (B1.fs K108.out f5.out (by decide))
      have H177 := κ (B1.fs K107.out f5.out (by decide))
      have F6 : Hid (Fs (fun c => c = 1 ∨ c = 5 ∨ c = g + 8) ρ w ρ5 w6) := κ ((F121.out.mono fun _ h => .inr (.inr h)).trans (f5.out.mono fun _ h => h.elim .inl fun h => .inr (.inl h)))
      go_upto_region 5 with fail
      have b178 : Below w6.heap.size w6 w6.drew := (Below.refl _ _).drew
      have H179 := κ (Gt.ext G5.out b178)
      have H180 := κ (Ac.ext A5.out b178)
      have H181 := κ (B1.ext H174.out b178)
      have H182 := κ (B1.ext H175.out b178)
      have H183 := κ (B1.ext H176.out b178)
      have H184 := κ (B1.ext H177.out b178)
      have H185 := κ (B1.ext K7.out b178)
      have F186 := κ (F6.out.trans (Fs.quiet b178))
      let T187 : World → Prop := fun w' => w'.cell? ⟨g119, 0, none⟩ = some (.pointer (some ⟨g, 0, none⟩)) ∧ w'.cell? ⟨g117, 0, none⟩ = some (.int .i64 x) ∧ w'.cell? ⟨b7, 0, none⟩ = some (.int .i64 (G.log.length : Int))
      have P188 : Hid (T187 w6.drew) := κ ⟨(H184.out.1.cell 0), (H183.out.1.cell 0), (H185.out.1.cell 0)⟩
      refine Ω T187 [] ?_
      generalize w6.drew = wd189 at H179 H180 H181 H182 H183 H184 H185 F186 P188 ⊢
      refine jB 0 P188.out ?_
      refine jB 1 P188.out ?_
      refine jB 2 P188.out ?_
      refine jB 5 P188.out ?_
      refine jB 6 P188.out ?_
      refine jA 7 P188.out ?_
      refine jN 3 fun K' hK => ?_
      go_simp
      refine (shardLatch_any x wd189 hx.1 (by omega)).mono ?_
      rintro e w9 ⟨rfl, rfl⟩
      refine hK.out _ _ P188.out ?_
      clear hK K'
      refine jP ?_
      refine jN 4 fun K' hK => ?_
      go_simp
      refine (take_acc g0 r.gp H179.out.new (2 + x)).mono ?_
      rintro e w192 ⟨k190, cap191, rfl, i193, b194⟩
      have H195 := κ (Gt.ext H179.out b194)
      have H196 := κ (Ac.ext H180.out b194)
      have H197 := κ (B1.ext H181.out b194)
      have H198 := κ (B1.ext H182.out b194)
      have H199 := κ (B1.ext H183.out b194)
      have H200 := κ (B1.ext H184.out b194)
      have H201 := κ (B1.ext H185.out b194)
      have i193 := κ i193
      have F202 := κ (F186.out.trans (Fs.quiet b194))
      have P203 : Hid (T187 w192) := κ ⟨(H200.out.1.cell 0), (H199.out.1.cell 0), (H201.out.1.cell 0)⟩
      refine hK.out _ _ P203.out ?_
      clear hK K'
      refine jP ?_
      refine jN 8 fun K' hK => ?_
      go_simp
      refine (look_acc g0 r.gp H195.out.new (G.log.length : Int) (.sweep x ep G.log.length) 170 #[pv g113, pv g117, pv g115, pv g119, pv b7] ⟨_, _, _, _, _, rfl, H197.out, H199.out, H198.out, H200.out, H201.out⟩).mono ?_
      rintro e w206 ⟨k204, cap205, rfl, i207, b208⟩
      have I209 := κ (IsAcc.ext i193.out b208)
      have H210 := κ (Gt.ext H195.out b208)
      have H211 := κ (Ac.ext H196.out b208)
      have H212 := κ (B1.ext H197.out b208)
      have H213 := κ (B1.ext H198.out b208)
      have H214 := κ (B1.ext H199.out b208)
      have H215 := κ (B1.ext H200.out b208)
      have H216 := κ (B1.ext H201.out b208)
      have i207 := κ i207
      have F217 := κ (F202.out.trans (Fs.quiet b208))
      have P218 : Hid (T187 w206) := κ ⟨(H215.out.1.cell 0), (H214.out.1.cell 0), (H216.out.1.cell 0)⟩
      refine hK.out _ _ P218.out ?_
      clear hK K'
      refine jP ?_
      refine jN 9 fun K' hK => ?_
      go_simp
      have b220 := β (w206) (.cells #[(.func (.func k190) #[] cap191), (.func (.func k204) #[] cap205)] 126)
      have K221 := κ (Blk.fresh (w206) 126 #[(.func (.func k190) #[] cap191), (.func (.func k204) #[] cap205)])
      have H224 := κ (Gt.ext H210.out b220)
      have H225 := κ (Ac.ext H211.out b220)
      have H226 := κ (B1.ext H212.out b220)
      have H227 := κ (B1.ext H213.out b220)
      have H228 := κ (B1.ext H214.out b220)
      have H229 := κ (B1.ext H215.out b220)
      have H230 := κ (B1.ext H216.out b220)
      have L231 : Hid (Are (IsAcc ρ5 ((w206).alloc (.cells #[(.func (.func k190) #[] cap191), (.func (.func k204) #[] cap205)] 126)) g0 g r.gp) [.one (.take (shL x)), .one (.load 0 (.look (G.log.length : Int) (.sweep x ep G.log.length)))] [(.func (.func k190) #[] cap191), (.func (.func k204) #[] cap205)]) := κ (.cons (IsAcc.ext I209.out b220) (.cons (IsAcc.ext i207.out b220) (.nil)))
      obtain ⟨g222, e223⟩ : ∃ x, x = w206.heap.size := ⟨_, rfl⟩
      simp only [← e223] at K221 ⊢
      clear e223
      have F232 := κ (F217.out.trans (Fs.quiet b220))
      generalize (w206).alloc (.cells #[(.func (.func k190) #[] cap191), (.func (.func k204) #[] cap205)] 126) = w219 at H224 H225 H226 H227 H228 H229 H230 L231 K221 F232 ⊢
      have P233 : Hid (T187 w219) := κ ⟨(H229.out.1.cell 0), (H228.out.1.cell 0), (H230.out.1.cell 0)⟩
      refine hK.out _ _ P233.out ?_
      clear hK K'
      refine jP ?_
      refine jN 10 fun K' hK => ?_
      go_simp
      refine (then_any base ρ5 q5 r g0 g g222 2 (beginG G a.who m0 true x ep) a _ _ w219 H224 H225 K221 L231 (κ rfl) (by decide) (by omega)).mono ?_
      rintro e w236 ⟨rfl, ρ234, r235, f237, H238, H239, p240⟩
      have H241 := κ (B1.fs H226.out f237 (by omega))
      have H242 := κ (B1.fs H227.out f237 (by omega))
      have H243 := κ (B1.fs H228.out f237 (by omega))
      have H244 := κ (B1.fs H229.out f237 (by omega))
      have H245 := κ (B1.fs H230.out f237 (by omega))
      have H238 := κ H238
      have H239 := κ H239
      have p240 := κ p240
      have F246 := κ (Fs.trans F232.out (f237.mono (D := fun c => c = 1 ∨ c = 5 ∨ c = g + 8) (fun _ h => .inr (.inr h))))
      have P247 : Hid (T187 w236) := κ ⟨(H244.out.1.cell 0), (H243.out.1.cell 0), (H245.out.1.cell 0)⟩
      refine hK.out _ _ P247.out ?_
      clear hK K'
      refine jP ?_
      refine Δ ?_
      go_wp2_with fail
      exact bodyPost_ret (v := .tuple #[]) (by simp [results, Tryz.results135, go_sem]) rfl (by rw [HSW.out]; exact ⟨rfl, ρ234, q5, r235, F246.out, H238.out, H239.out, p240.out⟩)
theorem kill11_any (base : Nat) (ρ : Nat → Nat) (q : Gq) (r : Aq) (g0 g b1 b2 : Nat) (ep : Int) (G : Gp) (a : Ap) (w : World) (HG : Hid (Gt base ρ w g0 q G)) (ha : Hid (Ac ρ w g0 g r a)) (hmax : a.todo.length ≤ 100000) (hV : Vs G) (hll : G.log.length ≤ 1000000) (hbl : G.bs.length ≤ 1000) (k1 : B1 ρ w b1 46 #[pv g]) (k2 : B1 ρ w b2 2 #[.int .i64 ep]) :
    Calls Tryz.prog 134 #[pv b1, pv b2] w (MadeI base (fun c => c = 1 ∨ c = 5 ∨ c = g + 8) ρ g0 g r.gp w (.tuple #[]) (sweepA G a 0 ep).1 (sweepA G a 0 ep).2) := by
  have y1 := B1.c k1
  have y2 := B1.c k2
  go_enter Tryz.func134, Tryz.ntmps134
  go_wp2_with fail
  refine (sweep_any base ρ q r g0 g 0 ep G a w HG ha hmax hV hll hbl).mono ?_
  rintro e w4 hT
  have hT := κ hT
  obtain ⟨rfl, _⟩ := hT.out
  go_wp2_with fail
  exact bodyPost_ret (v := .tuple #[]) (by simp [results, Tryz.results134, go_sem]) rfl hT.out
end Gx6
end Go.Proofs.YtaeddnjjeholgaaGreat
