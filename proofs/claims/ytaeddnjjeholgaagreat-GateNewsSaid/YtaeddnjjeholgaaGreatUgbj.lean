/- Texts side by side. -/
import Derived.Test.YtaeddnjjeholgaaGreatUgbi
set_option linter.unusedVariables false
set_option linter.unusedSimpArgs false
set_option maxRecDepth 100000
set_option maxHeartbeats 16000000
namespace Go.Proofs.YtaeddnjjeholgaaGreat
open Kap Lat Lax Go.ChangeShapes Go.WideShapes Go.ChangeAt Go.RowKit Go.Lib Mem Cel Bkp Bks Wpl Hpa Gpl Mdp Cfg Gow Gac Gat Gup Gex Gma Gbe Gth Gmz Gsn Gsm Glp Gx1 Gx2 Gx3 Gx4 Gx5 Gre Gx6
namespace Gx8
open Gma (wpL_two)
open Gpu (wpL_three)
theorem vs_end {G : Gp} {p c d : Int} (h : Vs G) : Vs (endG G p c d) := ⟨h.wl, h.hl, h.t0, h.t1⟩
theorem log_end {G : Gp} {p c d : Int} : (endG G p c d).log.length = G.log.length := by simp [endG]
theorem MadeI.from {base : Nat} {C : Nat → Prop} {ρ ρ1 : Nat → Nat} {g0 g : Nat} {gp : Option Nat} {w w1 w2 : World} {v : Value} {G' : Gp} {a' : Ap} {e : Ending} (h : MadeI base C ρ1 g0 g gp w1 v G' a' e w2) (f : Fs C ρ w ρ1 w1) : MadeI base C ρ g0 g gp w v G' a' e w2 := by
  obtain ⟨h0, ρ', q', r', h1, h2, h3, h4⟩ := h
  exact ⟨h0, ρ', q', r', f.trans h1, h2, h3, h4⟩
theorem sweep11_any (base : Nat) (ρ : Nat → Nat) (q : Gq) (r : Aq) (g0 g b1 b2 b3 b4 b5 b6 pl n sn cA : Nat) (A : Option Addr) (ep : Int) (G : Gp) (a : Ap) (w : World) (HG : Hid (Gt base ρ w g0 q G)) (ha : Hid (Ac ρ w g0 g r a)) (hmax : a.todo.length ≤ 100000) (hV : Vs G) (hp : pl < G.log.length) (hll : G.log.length ≤ 1000000) (hbl : G.bs.length ≤ 1000) (hsn : sn ≤ 1000) (hn : n ≤ 1000000)
    (k1 : B1 ρ w b1 36 #[pv g0]) (k2 : B1 ρ w b2 3 #[.int .i64 (pl : Int)]) (k3 : B1 ρ w b3 23 #[.slice A n cA]) (k4 : B1 ρ w b4 46 #[pv g]) (k5 : B1 ρ w b5 3 #[.int .i64 (sn : Int)]) (k6 : B1 ρ w b6 2 #[.int .i64 ep]) :
    Calls Tryz.prog 172 #[pv b1, pv b2, pv b3, pv b4, pv b5, pv b6] w (MadeI base (fun c => c = 1 ∨ c = 5 ∨ c = g + 8) ρ g0 g r.gp w (.tuple #[]) (sweepA (endG G pl 0 n) a (sn + 1 : Nat) ep).1 (sweepA (endG G pl 0 n) a (sn + 1 : Nat) ep).2) := by
  have y1 := B1.c k1
  have y2 := B1.c k2
  have y3 := B1.c k3
  have Y4 := κ k4
  have Y5 := κ k5
  have Y6 := κ k6
  clear k1 k2 k3 k4 k5 k6
  go_enter Tryz.func172, Tryz.ntmps172
  go_wp2_with fail
  refine (end_any base ρ q g0 pl 0 n G w HG hV hp hll).mono ?_
  rintro e w2 ⟨rfl, hG2, f2⟩
  have G2 := κ hG2
  have A2 := κ (Ac.fs ha.out f2 (by omega) (by decide))
  have y4 := B1.c (B1.fs Y4.out f2 (by decide))
  have y5 := B1.c (B1.fs Y5.out f2 (by decide))
  have y6 := B1.c (B1.fs Y6.out f2 (by decide))
  have f2 := κ f2
  clear hG2 y1 y2 y3 Y4 Y5 Y6
  go_wp2_with fail
  refine (sweep_any base ρ q r g0 g ((sn + 1 : Nat) : Int) ep (endG G pl 0 n) a w2 G2 A2 hmax (vs_end hV) (by rw [log_end]; exact hll) hbl).mono ?_
  rintro e w4 hT
  have hT := κ hT
  obtain ⟨rfl, _⟩ := hT.out
  go_wp2_with fail
  exact bodyPost_ret (v := .tuple #[]) (by simp [results, Tryz.results172, go_sem]) rfl (MadeI.from hT.out (f2.out.mono fun _ h => .inr (.inl h)))
theorem rearm11_any (w : World) : Calls Tryz.prog 138 #[] w (MadeV (.tuple #[]) w) := by
  go_enter Tryz.func138, Tryz.ntmps138
  go_wp2_with fail
  exact bodyPost_ret (v := .tuple #[]) (by simp [results, Tryz.results138, go_sem]) rfl ⟨rfl, Below.refl _ _⟩
end Gx8
namespace Gx9
open Gly Gx8
def CC (g : Nat) (c : Nat) : Prop := (c ≠ 0 ∧ c ≠ 4 ∧ c < 8) ∨ c = g + 8
theorem CC.n0 {g : Nat} : ¬ CC g 0 := fun h => h.elim (fun h => h.1 rfl) (by omega)
def MadeC (base : Nat) (ρ : Nat → Nat) (g0 g : Nat) (gp : Option Nat) (w : World) (v : Value) (G' : Gp) (a' : Ap) (e : Ending) (w' : World) : Prop := MadeI base (CC g) ρ g0 g gp w v G' a' e w'
def Pf (k : Nat) : Prop := ∀ c W, Sem.run Tryz.prog (callFunc k c) W = .ok (.enter k c) W
def sel {α : Type} (b : Bool) (x y : α) : α := if b = true then x else y
theorem after1_any (base : Nat) (ρ : Nat → Nat) (g0 g b1 b2 kx kd : Nat) (gp : Option Nat) (cx cd : Array Value) (ok : Bool) (G1 G2 : Gp) (a1 a2 : Ap) (w : World) (px : Pf kx) (pd : Pf kd) (h0 : Calls Tryz.prog kx cx w (MadeC base ρ g0 g gp w (.bool ok) G1 a1))
    (h1 : ok = true → ∀ ρ' q' r' w', Fs (CC g) ρ w ρ' w' → Gt base ρ' w' g0 q' G1 → Ac ρ' w' g0 g r' a1 → r'.gp = gp → Calls Tryz.prog kd cd w' (MadeC base ρ' g0 g gp w' (.tuple #[]) G2 a2))
    (k1 : B1 ρ w b1 126 #[.func (.func kx) #[] cx]) (k2 : B1 ρ w b2 1 #[.func (.func kd) #[] cd]) :
    Calls Tryz.prog 161 #[pv b1, pv b2] w (MadeC base ρ g0 g gp w (.bool ok) (sel ok G2 G1) (sel ok a2 a1)) := by
  have y1 := B1.c k1
  have Y2 := κ k2
  clear k1 k2
  go_enter Tryz.func161, Tryz.ntmps161
  go_wp2_with fail
  rw [px]
  refine h0.mono ?_
  rintro e w2 ⟨rfl, ρ', q', r', f1, G2', A2, hg⟩
  have y2 := B1.c (B1.fs Y2.out f1 CC.n0)
  cases ok with
  | false =>
    go_wp2_with fail
    go_ret
    exact ⟨rfl, ρ', q', r', f1, G2', A2, hg⟩
  | true =>
    go_wp2_with fail
    rw [pd]
    refine (h1 trivial ρ' q' r' w2 f1 G2' A2 hg).mono ?_
    rintro e w4 hT
    have hT := κ hT
    obtain ⟨rfl, _⟩ := hT.out
    go_wp2_with fail
    go_ret
    obtain ⟨_, ρ3, q3, r3, f3, G3, A3, h3⟩ := hT.out
    exact ⟨rfl, ρ3, q3, r3, f1.trans f3, G3, A3, h3⟩
theorem load1_any (base : Nat) (ρ : Nat → Nat) (q : Gq) (r : Aq) (g0 g b1 b2 b3 ks : Nat) (cs : Array Value) (l : Int) (G G2 : Gp) (a a2 : Ap) (w : World) (ps : Pf ks) (HG : Hid (Gt base ρ w g0 q G)) (ha : Hid (Ac ρ w g0 g r a)) (hv : Vs G)
    (HS : Hid (∀ w9, Fs (· = 2) ρ w ρ w9 → Gt base ρ w9 g0 q { G with cs := (loadF G.cs l).2 } → Ac ρ w9 g0 g r a → Calls Tryz.prog ks (#[.int .i64 (loadF G.cs l).1] ++ cs) w9 (MadeC base ρ g0 g r.gp w9 (.tuple #[]) G2 a2)))
    (k1 : B1 ρ w b1 204 #[.func (.func ks) #[] cs]) (k2 : B1 ρ w b2 46 #[pv g]) (k3 : B1 ρ w b3 3 #[.int .i64 l]) :
    Calls Tryz.prog 166 #[pv b1, pv b2, pv b3] w (MadeC base ρ g0 g r.gp w (.bool true) G2 a2) := by
  have hwl := hv.wl
  have hhl := hv.hl
  have t0 := B1.c k1
  have t1 := B1.c k2
  have t5 := B1.c k3
  have t2 := Ac.c0 ha.out
  have t4 := Gt.c7 HG.out
  let T : World → Prop := fun w' => w'.cell? (α b1 0) = some (.func (.func ks) #[] cs) ∧ w'.cell? (α b2 0) = some (.pointer (some (α g 0))) ∧ w'.cell? (α b3 0) = some (ι l) ∧ w'.cell? (α g 0) = some (.pointer (some (α g0 0))) ∧ w'.cell? (α g0 7) = some (.pointer (some (α q.gc 0)))
  have HT : Hid (T w.drew) := κ ⟨t0, t1, t5, t2, t4⟩
  have CT := Cn.load_any q.gc q.gw q.gh G.cs l w.drew (κ ⟨HG.out.cs.c, HG.out.cs.cw, HG.out.cs.ch, HG.out.cs.n1, HG.out.cs.n2, HG.out.cs.n3⟩) (by omega) (by omega)
  go_enter Tryz.func166, Tryz.ntmps166
  go_upto_region 1 with fail
  refine Ω T [10] ?_
  refine jF 0 HT.out ?_
  refine jF 1 HT.out ?_
  refine jA 2 HT.out ?_
  refine jA 3 HT.out ?_
  refine jF 4 HT.out ?_
  refine jA 5 HT.out ?_
  refine jA 6 HT.out ?_
  refine jF 7 HT.out ?_
  refine jF 8 HT.out ?_
  refine jN 9 fun K' hK => ?_
  go_simp
  refine CT.mono ?_
  rintro e w9 ⟨rfl, hc, hk⟩
  have hk := kept_drew hk
  have F : Fs (· = 2) ρ w ρ w9 := Fs.kept hk HG.out.o2.1 HG.out.o2.2.1 HG.out.o2.2.2
  have H9 : Hid (T w9) := κ ⟨ce F t0 k1.2 (by decide), ce F t1 k2.2 (by decide), ce F t5 k3.2 (by decide), ce F t2 ha.out.own (by omega), ce F t4 HG.out.o0 (by decide)⟩
  have G9 : Gt base ρ w9 g0 q { G with cs := (loadF G.cs l).2 } := HG.out.cells hk hc fun i hi => HG.out.new i (Nat.le_trans hk.size hi)
  have A9 : Ac ρ w9 g0 g r a := Ac.fs ha.out F (by omega) (by decide)
  refine hK.out _ _ H9.out ?_
  clear hK K'
  refine jP ?_
  refine jV 10 fun K' hK => ?_
  go_simp
  rw [ps]
  refine (HS.out w9 F G9 A9).mono ?_
  rintro e w4 hT
  have hT := κ hT
  obtain ⟨rfl, ρ3, q3, r3, f3, G3, A3, h3⟩ := hT.out
  refine hK.out _ _ ?_
  clear hK K'
  refine jP ?_
  refine Δ ?_
  clear CT HT H9
  go_wp2_with fail
  go_ret
  exact ⟨rfl, ρ3, q3, r3, (F.mono fun i h => .inl (by omega)).trans f3, G3, A3, h3⟩
theorem look1_any (base : Nat) (ρ : Nat → Nat) (q : Gq) (r : Aq) (g0 g b1 b2 b3 kd pl : Nat) (cd : Array Value) (v : Int) (G G2 : Gp) (a a2 : Ap) (w : World) (pd : Pf kd) (HG : Hid (Gt base ρ w g0 q G)) (ha : Hid (Ac ρ w g0 g r a)) (hv : Vs G) (hp : pl < G.log.length) (hl : G.log.length ≤ 1000000) (h0 : 0 ≤ v) (h1 : v ≤ 4611686018427387904)
    (HS : Hid (∀ w9, Fs (· = 5) ρ w ρ w9 → Gt base ρ w9 g0 q (markG G pl) → Ac ρ w9 g0 g r a → Calls Tryz.prog kd (#[.agg #[.int .i64 (epW v), .bool (offW v)]] ++ cd) w9 (MadeC base ρ g0 g r.gp w9 (.tuple #[]) G2 a2)))
    (k1 : B1 ρ w b1 46 #[pv g]) (k2 : B1 ρ w b2 3 #[.int .i64 (pl : Int)]) (k3 : B1 ρ w b3 179 #[.func (.func kd) #[] cd]) :
    Calls Tryz.prog 145 #[.int .i64 v, pv b1, pv b2, pv b3] w (MadeC base ρ g0 g r.gp w (.tuple #[]) G2 a2) := by
  have b0 : Below w.heap.size w w.drew := (Below.refl _ _).drew
  have GD := κ (Gt.ext HG.out b0)
  have AD := κ (Ac.ext ha.out b0)
  have K1 := κ (B1.ext k1 b0)
  have K2 := κ (B1.ext k2 b0)
  have K3 := κ (B1.ext k3 b0)
  have FD : Hid (Fs (· = 5) ρ w ρ w.drew) := κ (Fs.quiet b0)
  let T : World → Prop := fun w' => w'.cell? (α b1 0) = some (.pointer (some (α g 0))) ∧ w'.cell? (α b2 0) = some (ι (pl : Int)) ∧ w'.cell? (α g 0) = some (.pointer (some (α g0 0)))
  have HT : Hid (T w.drew) := κ ⟨B1.c K1.out, B1.c K2.out, Ac.c0 AD.out⟩
  have CM := mark_any base ρ q g0 pl G w.drew GD hv hp hl
  clear b0 k1 k2 k3
  go_enter Tryz.func145, Tryz.ntmps145
  go_upto_region 0 with fail
  refine Ω T [] ?_
  generalize w.drew = wd at GD AD K1 K2 K3 FD HT CM ⊢
  refine jB 0 HT.out ?_
  refine jA 1 HT.out ?_
  refine jA 2 HT.out ?_
  refine jB 3 HT.out ?_
  refine jB 4 HT.out ?_
  refine jN 5 fun K' hK => ?_
  go_simp
  refine CM.mono ?_
  rintro e w2 ⟨rfl, g2, f2⟩
  have P2 : Hid (T w2) := κ ⟨ce f2 HT.out.1 K1.out.2 (by decide), ce f2 HT.out.2.1 K2.out.2 (by decide), ce f2 HT.out.2.2 AD.out.own (by omega)⟩
  have A2 := κ (Ac.fs AD.out f2 (by omega) (by decide))
  have K4 := κ (B1.fs K3.out f2 (by decide))
  have F2 : Hid (Fs (· = 5) ρ w ρ w2) := κ (FD.out.trans f2)
  have g2 := κ g2
  clear f2
  refine hK.out _ _ P2.out ?_
  clear hK K'
  refine jP ?_
  refine Δ ?_
  clear CM HT P2 GD AD K1 K2 K3 FD
  go_upto_region 1 with fail
  have b2 : Below w2.heap.size w2 w2.drew := (Below.refl _ _).drew
  have GD := κ (Gt.ext g2.out b2)
  have AD := κ (Ac.ext A2.out b2)
  have K5 := κ (B1.ext K4.out b2)
  have F5 : Hid (Fs (· = 5) ρ w ρ w2.drew) := κ (F2.out.trans (Fs.quiet b2))
  clear b2
  let T : World → Prop := fun w' => w'.cell? (α b3 0) = some (.func (.func kd) #[] cd) ∧ True
  have HT : Hid (T w2.drew) := κ ⟨B1.c K5.out, trivial⟩
  refine Ω T [3] ?_
  generalize w2.drew = wd at GD AD K5 F5 HT ⊢
  refine jF 0 HT.out ?_
  refine jA 1 HT.out ?_
  refine jN 2 fun K' hK => ?_
  go_simp
  refine (positionOf_any v wd h0 h1).mono ?_
  rintro e w5 ⟨rfl, hb5⟩
  have G6 := Gt.ext GD.out hb5
  have A6 := Ac.ext AD.out hb5
  have K6 := κ (B1.ext K5.out hb5)
  have F6 := F5.out.trans (Fs.quiet hb5)
  have H6 : Hid (T w5) := κ ⟨B1.c K6.out, trivial⟩
  refine hK.out _ _ H6.out ?_
  clear hK K'
  refine jP ?_
  refine jV 3 fun K' hK => ?_
  go_simp
  rw [pd]
  refine (HS.out w5 F6 G6 A6).mono ?_
  rintro e w4 hT
  have hT := κ hT
  obtain ⟨rfl, _⟩ := hT.out
  refine hK.out _ _ ?_
  clear hK K'
  refine jP ?_
  refine Δ ?_
  go_wp2_with fail
  exact bodyPost_ret (v := .tuple #[]) (by simp [results, Tryz.results145, go_sem]) rfl (MadeI.from hT.out (F6.mono fun i h => .inl (by omega)))
end Gx9
namespace Gxa
open Gly Gx7 Gx8 Gx9
theorem pf_refuse_1 : Pf 102 := fun c W => by kernel_rfl
theorem pf_order_1 : Pf 104 := fun c W => by kernel_rfl
theorem pf_order_2 : Pf 113 := fun c W => by kernel_rfl
theorem pf_sweep_1 : Pf 170 := fun c W => by kernel_rfl
theorem pf_seeUsed_1 : Pf 153 := fun c W => by kernel_rfl
theorem pf_seeCaps_1 : Pf 154 := fun c W => by kernel_rfl
theorem pf_look_1 : Pf 145 := fun c W => by kernel_rfl
theorem pf_kill_1 : Pf 131 := fun c W => by kernel_rfl
theorem pf_send_1 : Pf 158 := fun c W => by kernel_rfl
theorem pf_turn_1 : Pf 168 := fun c W => by kernel_rfl
theorem pf_limit_1 : Pf 141 := fun c W => by kernel_rfl
theorem pf_kill_1_1 : Pf 134 := fun c W => by kernel_rfl
theorem pf_rearm_1_1 : Pf 138 := fun c W => by kernel_rfl
theorem pf_sweep_1_1 : Pf 172 := fun c W => by kernel_rfl
theorem pf_take_1 : Pf 151 := fun c W => by kernel_rfl
theorem pf_free_1 : Pf 159 := fun c W => by kernel_rfl
theorem pf_store_1 : Pf 173 := fun c W => by kernel_rfl
theorem pf_load_1 : Pf 166 := fun c W => by kernel_rfl
theorem pf_after_1 : Pf 161 := fun c W => by kernel_rfl
section
variable {base : Nat} {ρ : Nat → Nat} {q : Gq} {r : Aq} {g0 g : Nat} {gp : Option Nat} {w : World} {v : Value} {G G' : Gp} {a a' : Ap} {e : Ending} {w' : World}
theorem ofT (h : MadeT base ρ q g0 g gp w v G a' e w') : MadeC base ρ g0 g gp w v G a' e w' := by
  obtain ⟨h0, ρ', r', h1, h2, h3, h4⟩ := h
  exact ⟨h0, ρ', q, r', h1.mono fun i h => .inr h, h2, h3, h4⟩
theorem ofI {C : Nat → Prop} (h : MadeI base C ρ g0 g gp w v G' a' e w') (hc : ∀ i, C i → CC g i) : MadeC base ρ g0 g gp w v G' a' e w' := by
  obtain ⟨h0, ρ', q', r', h1, h2, h3, h4⟩ := h
  exact ⟨h0, ρ', q', r', h1.mono hc, h2, h3, h4⟩
theorem ofG (ha : Hid (Ac ρ w g0 g r a)) (h : MadeG base ρ q g0 w v G' e w') : MadeC base ρ g0 g r.gp w v G' a e w' :=
  ⟨h.1, ρ, q, r, h.2.2.mono fun i h => .inl (by omega), h.2.1, Ac.fs ha.out h.2.2 (by omega) (by decide), rfl⟩
theorem ofL (ha : Hid (Ac ρ w g0 g r a)) (h : MadeL base ρ q g0 w v G' e w') : MadeC base ρ g0 g r.gp w v G' a e w' :=
  ⟨h.1, ρ, q, r, h.2.2.mono fun i h => .inl (by omega), h.2.1, Ac.fs ha.out h.2.2 (by omega) (by decide), rfl⟩
theorem ofS (ha : Hid (Ac ρ w g0 g r a)) (h : MadeS base ρ g0 w v G' e w') : MadeC base ρ g0 g r.gp w v G' a e w' := by
  obtain ⟨h0, ρ', q', h1, h2⟩ := h
  exact ⟨h0, ρ', q', r, h2.mono fun i h => .inl (by omega), h1, Ac.fs ha.out h2 (by omega) (by decide), rfl⟩
theorem ofV (HG : Hid (Gt base ρ w g0 q G)) (ha : Hid (Ac ρ w g0 g r a)) (h : MadeV v w e w') : MadeC base ρ g0 g r.gp w v G a e w' :=
  ⟨h.1, ρ, q, r, Fs.quiet h.2, (Gt.ext HG.out h.2), (Ac.ext ha.out h.2), rfl⟩
end
structure OkO (G : Gp) (a : Ap) (o : Od) (x s : Int) : Prop where
  a0 : 0 ≤ o.a
  sn : Cfg.shaF G.sh G.ac.length o.a = s
  s0 : 0 ≤ s
  sb : s.toNat < G.bs.length
  bl : G.bs.length ≤ 1000
  few : FewB (gB G.bs s.toNat)
  w0 : 0 ≤ G.wi
  w1 : G.wi ≤ 1000
  gs : Res.GoodSt a.pu.cl a.pu.cu
  l1 : nds a.pu.cl ≠ []
  l2 : ints (Cpl.resU a.pu.cl a.pu.cu a.pu.leaf x) ≠ []
  le : inI a.pu.leaf
  ix : inI x
  h0 : 1 ≤ G.sh
  h1 : G.sh ≤ 1000
  al : G.ac.length ≤ 1000
  pi : ∀ k, k < a.pu.path.length → 0 ≤ gI a.pu.path k ∧ gI a.pu.path k ≤ 400
  pc : ∀ k, k < a.pu.path.length → 0 ≤ gI a.pu.path k ∧ gI a.pu.path k < a.pu.cu.length
  cu : a.pu.cu.length ≤ 400
  pl : a.pu.path.length ≤ 3
  td : a.todo.length ≤ 1000
def OkD (G : Gp) (a : Ap) (d : Dec) : Prop := match d with
  | .refuse c => True
  | .ord1 c => True
  | .ord2 o x s => OkO G a o x s
  | .sweep s ep pl => 0 ≤ s ∧ s.toNat < G.bs.length ∧ G.bs.length ≤ 1000 ∧ FewB (gB G.bs s.toNat) ∧ a.todo.length ≤ 1000
  | .cancel id s => False
  | .settle s x b => False
def OkS (G : Gp) (a : Ap) (v : Int) (s : See) : Prop := match s with
  | .used n => 0 ≤ n ∧ n.toNat < a.pu.cu.length ∧ a.pu.cu.length ≤ 1000 ∧ a.pu.fr = true
  | .caps n => 0 ≤ n ∧ n.toNat < a.pu.cl.length ∧ a.pu.cl.length ≤ 1000 ∧ a.pu.fr = true
  | .look pl d => Vs G ∧ 0 ≤ pl ∧ pl.toNat < G.log.length ∧ G.log.length ≤ 1000000 ∧ 0 ≤ v ∧ v ≤ 4611686018427387904 ∧ OkD (markG G pl) a d
  | .kill => a.todo.length ≤ 100000 ∧ 0 ≤ v ∧ v ≤ 4611686018427387904
  | .rearm => False
def OkN (G : Gp) (a : Ap) (d : Dn) : Prop := match d with
  | .send k i => Vs G ∧ G.out.length ≤ 1000000 ∧ G.at'.length ≤ 1000000
  | .mark => Vs G ∧ 0 ≤ a.place ∧ a.place.toNat < G.log.length ∧ G.log.length ≤ 1000000
  | .swp0 ep => a.todo.length ≤ 100000 ∧ Vs G ∧ G.log.length ≤ 1000000 ∧ G.bs.length ≤ 1000
  | .nop => True
  | .swp1 s ep pl n => a.todo.length ≤ 100000 ∧ Vs G ∧ 0 ≤ pl ∧ pl.toNat < G.log.length ∧ G.log.length ≤ 1000000 ∧ G.bs.length ≤ 1000 ∧ 0 ≤ s ∧ s ≤ 1000 ∧ n ≤ 1000000
  | .settle f id y s => False
def OkA (G : Gp) (a : Ap) (x : A0) : Prop := Vs G ∧ match x with
  | .take l => True
  | .free l => True
  | .store l u => True
  | .load l s => OkS { G with cs := (loadF G.cs l).2 } a (loadF G.cs l).1 s
def OkX (G : Gp) (a : Ap) (x : Acc) : Prop := match x with
  | .one x => OkA G a x
  | .aft x d => OkA G a x ∧ ((a0F G a x).1 = true → OkN (a0F G a x).2.1 (a0F G a x).2.2 d)
section
variable {base : Nat} {ρ : Nat → Nat} {q : Gq} {r : Aq} {g0 g : Nat} {w : World} {G : Gp} {a : Ap}
theorem dec_any (d : Dec) (v : Int) (vd : Value) (HG : Hid (Gt base ρ w g0 q G)) (ha : Hid (Ac ρ w g0 g r a)) (hd : IsDec ρ w g0 g r.gp d vd) (ok : OkD G a d) :
    ∃ k cap, vd = .func (.func k) #[] cap ∧ Pf k ∧ Calls Tryz.prog k (#[.agg #[.int .i64 (epW v), .bool (offW v)]] ++ cap) w (MadeC base ρ g0 g r.gp w (.tuple #[]) (decF G a v d).1 (decF G a v d).2) := by
  cases d with
  | refuse c =>
    obtain ⟨b1, b2, rfl, h1, h2⟩ := hd
    exact ⟨_, _, rfl, pf_refuse_1, (refuse1_any base ρ q r g0 g b1 b2 c (epW v) (offW v) G a w HG ha h1 h2).mono fun _ _ h => ofT h⟩
  | ord1 c =>
    obtain ⟨b1, b2, rfl, h1, h2⟩ := hd
    exact ⟨_, _, rfl, pf_order_1, (order1_any base ρ q r g0 g b1 b2 c (epW v) (offW v) G a w HG ha h1 h2).mono fun _ _ h => ofT h⟩
  | ord2 o x s =>
    obtain ⟨b1, b2, b3, b4, b5, b6, p, rfl, h1, h2, h3, ⟨h4, h4'⟩, h5, h6⟩ := hd
    have ok : OkO G a o x s := ok
    obtain ⟨oa, os, ox, op, oq, on, ot⟩ := o
    obtain ⟨i, hi⟩ : ∃ i : Nat, oa = (i : Int) := ⟨oa.toNat, (Int.toNat_of_nonneg ok.a0).symm⟩
    subst hi
    obtain ⟨sn, hsn⟩ : ∃ i : Nat, s = (i : Int) := ⟨s.toNat, (Int.toNat_of_nonneg ok.s0).symm⟩
    subst hsn
    obtain ⟨wn, hwn⟩ : ∃ i : Nat, G.wi = (i : Int) := ⟨G.wi.toNat, (Int.toNat_of_nonneg ok.w0).symm⟩
    have hw1 := ok.w1
    refine ⟨_, _, rfl, pf_order_2, (order2_any base ρ q r g0 g p i sn wn b1 b2 b3 b4 b5 b6 os ox op oq on ot x (epW v) (offW v) G a w HG ha h4 ok.sn ok.sb ok.bl (κ ok.few) hwn (by omega) (κ ok.gs) (κ ok.l1) (κ ok.l2) ok.le ok.ix ok.h0 ok.h1 ok.al (κ ok.pi) (κ ok.pc) ok.cu ok.pl ok.td h1 h2 h3 h4' h5 h6).mono fun _ _ h => ?_⟩
    rw [dec_ord2]
    exact ofI h fun i h => h.elim (fun h => .inl (by omega)) .inr
  | cancel id s => exact ok.elim
  | settle s x b => exact ok.elim
  | sweep s ep pl =>
    obtain ⟨b1, b2, b3, b4, b5, rfl, h1, h2, h3, h4, h5⟩ := hd
    obtain ⟨o0, o1, o2, o3, o4⟩ := ok
    obtain ⟨sn, rfl⟩ : ∃ i : Nat, s = (i : Int) := ⟨s.toNat, (Int.toNat_of_nonneg o0).symm⟩
    exact ⟨_, _, rfl, pf_sweep_1, (sweep1_any base ρ q r g0 g sn b1 b2 b3 b4 b5 ep pl (epW v) (offW v) G a w HG ha o4 o1 o2 (κ o3) h1 h2 h3 h4 h5).mono fun _ _ h => ofI h fun i h => h.elim (fun h => .inl (by omega)) .inr⟩
end
end Gxa
namespace Gxb
open Gly Gx7 Gx8 Gx9 Gxa
section
variable {base : Nat} {ρ : Nat → Nat} {q : Gq} {r : Aq} {g0 g : Nat} {gp : Option Nat} {w : World} {G : Gp} {a : Ap}
theorem dec_shape {d : Dec} {vd : Value} (hd : IsDec ρ w g0 g gp d vd) (ok : OkD G a d) : ∃ k cap, vd = .func (.func k) #[] cap ∧ Pf k := by
  cases d with
  | refuse c => obtain ⟨b1, b2, rfl, _⟩ := hd; exact ⟨_, _, rfl, pf_refuse_1⟩
  | ord1 c => obtain ⟨b1, b2, rfl, _⟩ := hd; exact ⟨_, _, rfl, pf_order_1⟩
  | ord2 o x s => obtain ⟨b1, b2, b3, b4, b5, b6, p, rfl, _⟩ := hd; exact ⟨_, _, rfl, pf_order_2⟩
  | cancel id s => exact ok.elim
  | settle s x b => exact ok.elim
  | sweep s ep pl => obtain ⟨b1, b2, b3, b4, b5, rfl, _⟩ := hd; exact ⟨_, _, rfl, pf_sweep_1⟩
theorem see_shape {s : See} {v : Int} {vd : Value} (hd : IsSee ρ w g0 g gp s vd) (ok : OkS G a v s) : ∃ k cap, vd = .func (.func k) #[] cap ∧ Pf k := by
  cases s with
  | used n => obtain ⟨b1, b2, p, rfl, _⟩ := hd; exact ⟨_, _, rfl, pf_seeUsed_1⟩
  | caps n => obtain ⟨b1, b2, p, rfl, _⟩ := hd; exact ⟨_, _, rfl, pf_seeCaps_1⟩
  | look pl d => obtain ⟨b1, b2, b3, vd, rfl, _⟩ := hd; exact ⟨_, _, rfl, pf_look_1⟩
  | kill => obtain ⟨b1, rfl, _⟩ := hd; exact ⟨_, _, rfl, pf_kill_1⟩
  | rearm => exact ok.elim
theorem dn_shape {d : Dn} {vd : Value} (hd : IsDn ρ w g0 g gp d vd) : (∃ f id y s, d = .settle f id y s) ∨ ∃ k cap, vd = .func (.func k) #[] cap ∧ Pf k := by
  cases d with
  | send k i => obtain ⟨b1, b2, rfl, _⟩ := hd; exact .inr ⟨_, _, rfl, pf_send_1⟩
  | mark =>
    obtain ⟨b1, rfl, _⟩ | ⟨b1, b2, rfl, _⟩ := hd
    · exact .inr ⟨_, _, rfl, pf_turn_1⟩
    · exact .inr ⟨_, _, rfl, pf_limit_1⟩
  | swp0 ep => obtain ⟨b1, b2, rfl, _⟩ := hd; exact .inr ⟨_, _, rfl, pf_kill_1_1⟩
  | nop => obtain rfl := hd; exact .inr ⟨_, _, rfl, pf_rearm_1_1⟩
  | swp1 s ep pl n => obtain ⟨b1, b2, b3, b4, b5, b6, A, c, rfl, _⟩ := hd; exact .inr ⟨_, _, rfl, pf_sweep_1_1⟩
  | settle f id y s => exact .inl ⟨f, id, y, s, rfl⟩
theorem func_inj {k k' : Nat} {c c' : Array Value} (h : Value.func (.func k) #[] c = Value.func (.func k') #[] c') : k = k' ∧ c = c' := by
  injection h with h1 h2 h3
  injection h1 with h1
  exact ⟨h1, h3⟩
theorem see_any (s : See) (v : Int) (vs : Value) (HG : Hid (Gt base ρ w g0 q G)) (ha : Hid (Ac ρ w g0 g r a)) (hs : IsSee ρ w g0 g r.gp s vs) (ok : OkS G a v s) :
    ∃ k cap, vs = .func (.func k) #[] cap ∧ Pf k ∧ Calls Tryz.prog k (#[.int .i64 v] ++ cap) w (MadeC base ρ g0 g r.gp w (.tuple #[]) (seeF G a v s).1 (seeF G a v s).2) := by
  cases s with
  | used n =>
    obtain ⟨b1, b2, p, rfl, ⟨h0, h1⟩, h2⟩ := hs
    obtain ⟨o0, o1, o2, o3⟩ := ok
    obtain ⟨m, rfl⟩ : ∃ i : Nat, n = (i : Int) := ⟨n.toNat, (Int.toNat_of_nonneg o0).symm⟩
    exact ⟨_, _, rfl, pf_seeUsed_1, (seeUsed1_any base ρ q r g0 g b1 b2 p m v G a w HG ha h0 o3 o1 o2 h1 h2).mono fun _ _ h => ofT h⟩
  | caps n =>
    obtain ⟨b1, b2, p, rfl, ⟨h0, h1⟩, h2⟩ := hs
    obtain ⟨o0, o1, o2, o3⟩ := ok
    obtain ⟨m, rfl⟩ : ∃ i : Nat, n = (i : Int) := ⟨n.toNat, (Int.toNat_of_nonneg o0).symm⟩
    exact ⟨_, _, rfl, pf_seeCaps_1, (seeCaps1_any base ρ q r g0 g b1 b2 p m v G a w HG ha h0 o3 o1 o2 h1 h2).mono fun _ _ h => ofT h⟩
  | look pl d =>
    obtain ⟨b1, b2, b3, vd, rfl, h1, h2, h3, hd⟩ := hs
    obtain ⟨hv, o0, o1, o2, o3, o4, o5⟩ := ok
    obtain ⟨m, rfl⟩ : ∃ i : Nat, pl = (i : Int) := ⟨pl.toNat, (Int.toNat_of_nonneg o0).symm⟩
    obtain ⟨k, cap, rfl, pk⟩ := dec_shape hd o5
    refine ⟨_, _, rfl, pf_look_1, look1_any base ρ q r g0 g b1 b2 b3 k m cap v G _ a _ w pk HG ha hv o1 o2 o3 o4 (κ ?_) h1 h2 h3⟩
    intro w9 f9 g9 a9
    obtain ⟨k', cap', e, _, hc⟩ := dec_any d v _ (κ g9) (κ a9) (hd.fs f9 (by decide)) o5
    obtain ⟨rfl, rfl⟩ := func_inj e
    exact hc
  | kill =>
    obtain ⟨b1, rfl, h1⟩ := hs
    obtain ⟨o0, o1, o2⟩ := ok
    exact ⟨_, _, rfl, pf_kill_1, (kill1_any base ρ q r g0 g b1 v G a w HG ha o0 o1 o2 h1).mono fun _ _ h => ofT h⟩
  | rearm => exact ok.elim
theorem dn_any (d : Dn) (vd : Value) (HG : Hid (Gt base ρ w g0 q G)) (ha : Hid (Ac ρ w g0 g r a)) (hd : IsDn ρ w g0 g r.gp d vd) (ok : OkN G a d) :
    ∃ k cap, vd = .func (.func k) #[] cap ∧ Pf k ∧ Calls Tryz.prog k cap w (MadeC base ρ g0 g r.gp w (.tuple #[]) (dnF G a d).1 (dnF G a d).2) := by
  cases d with
  | send k i =>
    obtain ⟨b1, b2, rfl, h1, h2⟩ := hd
    obtain ⟨hv, o1, o2⟩ := ok
    exact ⟨_, _, rfl, pf_send_1, (send1_any base ρ q g0 b1 b2 k i G w HG hv o1 o2 h1 h2).mono fun _ _ h => ofS ha h⟩
  | mark =>
    obtain ⟨hv, o0, o1, o2⟩ := ok
    obtain ⟨m, hm⟩ : ∃ i : Nat, a.place = (i : Int) := ⟨a.place.toNat, (Int.toNat_of_nonneg o0).symm⟩
    have e : dnF G a .mark = (markG G m, a) := by unfold dnF; rw [hm]
    rw [e]
    obtain ⟨b1, rfl, h1⟩ | ⟨b1, b2, rfl, h1, h2⟩ := hd
    · exact ⟨_, _, rfl, pf_turn_1, (turn1_any base ρ q r g0 g m b1 G a w HG ha hv hm (by rw [hm] at o1; exact o1) o2 h1).mono fun _ _ h => ofL ha h⟩
    · exact ⟨_, _, rfl, pf_limit_1, (limit1_any base ρ q r g0 g m b1 b2 G a w HG ha hv hm (by rw [hm] at o1; exact o1) o2 h1 h2).mono fun _ _ h => ofL ha h⟩
  | swp0 ep =>
    obtain ⟨b1, b2, rfl, h1, h2⟩ := hd
    obtain ⟨o0, hv, o1, o2⟩ := ok
    exact ⟨_, _, rfl, pf_kill_1_1, (kill11_any base ρ q r g0 g b1 b2 ep G a w HG ha o0 hv o1 o2 h1 h2).mono fun _ _ h => ofI h fun i h => h.elim (fun h => .inl (by omega)) fun h => h.elim (fun h => .inl (by omega)) .inr⟩
  | nop =>
    obtain rfl := hd
    exact ⟨_, _, rfl, pf_rearm_1_1, (rearm11_any w).mono fun _ _ h => ofV HG ha h⟩
  | swp1 s ep pl n =>
    obtain ⟨b1, b2, b3, b4, b5, b6, A, c, rfl, h1, h2, ⟨h3, h3'⟩, h4, h5, h6⟩ := hd
    obtain ⟨o0, hv, o1, o2, o3, o4, o5, o6, o7⟩ := ok
    obtain ⟨m, rfl⟩ : ∃ i : Nat, pl = (i : Int) := ⟨pl.toNat, (Int.toNat_of_nonneg o1).symm⟩
    obtain ⟨sn, rfl⟩ : ∃ i : Nat, s = (i : Int) := ⟨s.toNat, (Int.toNat_of_nonneg o5).symm⟩
    obtain ⟨n, rfl⟩ : ∃ i : Nat, n = (i : Int) := ⟨n.toNat, (Int.toNat_of_nonneg h3').symm⟩
    exact ⟨_, _, rfl, pf_sweep_1_1, (sweep11_any base ρ q r g0 g b1 b2 b3 b4 b5 b6 m n sn c A ep G a w HG ha o0 hv o2 o3 o4 (by omega) (by omega) h1 h2 h3 h4 h5 h6).mono fun _ _ h => ofI h fun i h => h.elim (fun h => .inl (by omega)) fun h => h.elim (fun h => .inl (by omega)) .inr⟩
  | settle f id y s => exact ok.elim
theorem a0_any (x : A0) (vx : Value) (HG : Hid (Gt base ρ w g0 q G)) (ha : Hid (Ac ρ w g0 g r a)) (hx : IsA0 ρ w g0 g r.gp x vx) (ok : OkA G a x) :
    ∃ k cap, vx = .func (.func k) #[] cap ∧ Pf k ∧ Calls Tryz.prog k cap w (MadeC base ρ g0 g r.gp w (.bool (a0F G a x).1) (a0F G a x).2.1 (a0F G a x).2.2) := by
  obtain ⟨hv, ok⟩ := ok
  cases x with
  | take l =>
    obtain ⟨b1, b2, rfl, h1, h2⟩ := hx
    exact ⟨_, _, rfl, pf_take_1, (take1_any base ρ q r g0 g b1 b2 l G a w HG ha hv h1 h2).mono fun _ _ h => ofG ha h⟩
  | free l =>
    obtain ⟨b1, b2, rfl, h1, h2⟩ := hx
    exact ⟨_, _, rfl, pf_free_1, (free1_any base ρ q r g0 g b1 b2 l G a w HG ha hv h1 h2).mono fun _ _ h => ofG ha h⟩
  | store l u =>
    obtain ⟨b1, b2, b3, rfl, h1, h2, h3⟩ := hx
    exact ⟨_, _, rfl, pf_store_1, (store1_any base ρ q r g0 g b1 b2 b3 l u G a w HG ha hv h1 h2 h3).mono fun _ _ h => ofG ha h⟩
  | load l s =>
    obtain ⟨b1, b2, b3, vs, rfl, h1, h2, h3, hs⟩ := hx
    have ok : OkS { G with cs := (loadF G.cs l).2 } a (loadF G.cs l).1 s := ok
    obtain ⟨k, cap, rfl, pk⟩ := see_shape hs ok
    refine ⟨_, _, rfl, pf_load_1, load1_any base ρ q r g0 g b1 b2 b3 k cap l G _ a _ w pk HG ha hv (κ ?_) h1 h2 h3⟩
    intro w9 f9 g9 a9
    obtain ⟨k', cap', e, _, hc⟩ := see_any s _ _ (κ g9) (κ a9) (hs.fs f9 (by decide)) ok
    obtain ⟨rfl, rfl⟩ := func_inj e
    exact hc
theorem acc_any (x : Acc) (vx : Value) (HG : Hid (Gt base ρ w g0 q G)) (ha : Hid (Ac ρ w g0 g r a)) (hx : IsAcc ρ w g0 g r.gp x vx) (hset : ∀ y f id z s, x ≠ .aft y (.settle f id z s)) (ok : OkX G a x) :
    ∃ k cap, vx = .func (.func k) #[] cap ∧ Pf k ∧ Calls Tryz.prog k cap w (MadeC base ρ g0 g r.gp w (.bool (accF G a x).1) (accF G a x).2.1 (accF G a x).2.2) := by
  cases x with
  | one x => exact a0_any x vx HG ha hx ok
  | aft x d =>
    obtain ⟨b1, b2, vx, vd, rfl, h1, h2, hx, hd⟩ := hx
    obtain ⟨ok0, ok1⟩ := ok
    obtain ⟨k, cap, rfl, pk, hc⟩ := a0_any x vx HG ha hx ok0
    rcases dn_shape hd with ⟨f, id, y, s, rfl⟩ | ⟨kd, cd, rfl, pd⟩
    · exact absurd rfl (hset _ _ _ _ _)
    · have := after1_any base ρ g0 g b1 b2 k kd r.gp cap cd (a0F G a x).1 _ (dnF (a0F G a x).2.1 (a0F G a x).2.2 d).1 _ (dnF (a0F G a x).2.1 (a0F G a x).2.2 d).2 w pk pd hc (fun ho ρ' q' r' w' f' g' a' hr => by
        obtain ⟨k', cap', e, _, hc⟩ := dn_any (r := r') d _ (κ g') (κ a') (by rw [hr]; exact hd.fs f' CC.n0) (ok1 ho)
        obtain ⟨rfl, rfl⟩ := func_inj e
        rw [hr] at hc
        exact hc) h1 h2
      refine ⟨_, _, rfl, pf_after_1, ?_⟩
      have e : accF G a (.aft x d) = ((a0F G a x).1, sel (a0F G a x).1 (dnF (a0F G a x).2.1 (a0F G a x).2.2 d).1 (a0F G a x).2.1, sel (a0F G a x).1 (dnF (a0F G a x).2.1 (a0F G a x).2.2 d).2 (a0F G a x).2.2) := by
        show (if (a0F G a x).1 = true then (true, dnF (a0F G a x).2.1 (a0F G a x).2.2 d) else a0F G a x) = _
        unfold sel
        by_cases h : (a0F G a x).1 = true
        · rw [if_pos h, if_pos h, if_pos h, h]
        · rw [if_neg h, if_neg h, if_neg h]
      rw [e]
      exact this
end
end Gxb
end Go.Proofs.YtaeddnjjeholgaaGreat
