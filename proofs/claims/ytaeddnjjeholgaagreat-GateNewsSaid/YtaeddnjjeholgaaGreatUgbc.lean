/- Texts side by side. -/
import Derived.Test.YtaeddnjjeholgaaGreatUgba
set_option linter.unusedVariables false
set_option linter.unusedSimpArgs false
set_option maxRecDepth 100000
set_option maxHeartbeats 16000000
namespace Go.Proofs.YtaeddnjjeholgaaGreat
open Kap Lat Lax Go.ChangeShapes Go.WideShapes Go.ChangeAt Go.RowKit Go.Lib Mem Cel Bkp Bks Wpl Hpa Gpl Mdp Cfg Gow Gac Gat Gup Gex Gma Gth Gmz Gsn Gsm
namespace Gx1
section
variable {ρ : Nat → Nat} {w : World} {g0 g : Nat} {r : Aq} {a : Ap}
theorem used_at (h : Ac ρ w g0 g r a) {gp : Nat} (hr : r.gp = some gp) (hf : a.pu.fr = true) {n : Nat} (hn : n < a.pu.cu.length) :
    ∃ bu, r.Au = some ⟨bu, 0, none⟩ ∧ w.cell? ⟨gp, 3, none⟩ = some (.slice r.Au a.pu.cu.length r.cu) ∧ w.cell? ⟨bu, n, none⟩ = some (.int .i64 (gI a.pu.cu n)) ∧ w.frozen? ⟨bu, n, none⟩ = false ∧
      ∀ v, Ac ρ (w.setCell ⟨bu, n, none⟩ (.int .i64 v)) g0 g r { a with pu := { a.pu with cu := a.pu.cu.set n v } } ∧ Fs (· = g + 8) ρ w ρ (w.setCell ⟨bu, n, none⟩ (.int .i64 v)) := by
  obtain ⟨k1, k2, k3, k4⟩ := h.pu gp hr
  rw [if_pos hf] at k4
  obtain ⟨⟨kn, kno⟩, ⟨ku, kuo⟩⟩ := k4
  rcases ku.2 with ⟨_, h0⟩ | ⟨bu, cap, cur, hv, hb, hg, hr'⟩
  · omega
  · injection hv with hA
    have hob : ρ bu = g + 8 := kuo bu (by rw [hA]; rfl)
    have ku' := ku
    rw [hA] at ku'
    refine ⟨bu, hA, k1.cell 3, ?_, World.ownsRow.frozenAt ku' _, fun v => ?_⟩
    · rw [World.ownsRow.cellAt ku' n (by omega)]; exact gI_lt hn
    · have f : Fs (· = g + 8) ρ w ρ (w.setCell ⟨bu, n, none⟩ (.int .i64 v)) := Fs.set _ _ _ _ _ _ hob
      have o : Ot 2 w (w.setCell ⟨bu, n, none⟩ (.int .i64 v)) := Ot.set hg n _
      refine ⟨⟨o _ _ _ (by decide) h.blk, h.own, Tod.ot h.tod o f (by decide), h.acc.mono fun x v k => k.fs f (by omega), fun gp' hg' => ?_⟩, f⟩
      have e : gp' = gp := by rw [hr] at hg'; injection hg' with hg'; exact hg'.symm
      subst e
      refine ⟨?_, k2, k3.fs f (by omega), ?_⟩
      · have := o _ _ _ (by decide) k1; unfold puV at this ⊢; simpa only [List.length_set] using this
      · simp only [hf, if_true, List.length_set]
        refine ⟨OwR.ot ⟨kn, kno⟩ o f (by decide), ⟨?_, by simpa only [List.length_set] using kuo⟩⟩
        rw [hA, ← Cel.ints_set]
        exact (World.ownsRow.stored ku' n (.int .i64 v)).1
theorem nds_setC (l : List (Int × Int)) (n : Nat) (v : Int) (h : n < l.length) : nds (l.set n ((l.getD n (0, 0)).1, v)) = (nds l).set (n * 2 + 1) (.int .i64 v) := by
  induction l generalizing n with
  | nil => simp at h
  | cons p l ih =>
    cases n with
    | zero => simp [nds, ndV]
    | succ n =>
      have := ih n (by simpa using h)
      have e : ∀ l', nds (p :: l') = ndV p ++ nds l' := fun _ => rfl
      simp only [List.set_cons_succ, List.getD_cons_succ]
      rw [e, e, this, show (n + 1) * 2 + 1 = (ndV p).length + (n * 2 + 1) by simp [ndV]; omega, List.set_append_right _ _ (by omega), Nat.add_sub_cancel_left]
theorem caps_at (h : Ac ρ w g0 g r a) {gp : Nat} (hr : r.gp = some gp) (hf : a.pu.fr = true) {n : Nat} (hn : n < a.pu.cl.length) :
    ∃ bu, r.An = some ⟨bu, 0, none⟩ ∧ w.cell? ⟨gp, 2, none⟩ = some (.slice r.An a.pu.cl.length r.cn) ∧ w.cell? ⟨bu, n * 2 + 1, none⟩ = some (.int .i64 (nC a.pu.cl n)) ∧ w.frozen? ⟨bu, n * 2 + 1, none⟩ = false ∧
      ∀ v, Ac ρ (w.setCell ⟨bu, n * 2 + 1, none⟩ (.int .i64 v)) g0 g r { a with pu := { a.pu with cl := a.pu.cl.set n ((a.pu.cl.getD n (0, 0)).1, v) } } ∧ Fs (· = g + 8) ρ w ρ (w.setCell ⟨bu, n * 2 + 1, none⟩ (.int .i64 v)) := by
  obtain ⟨k1, k2, k3, k4⟩ := h.pu gp hr
  rw [if_pos hf] at k4
  obtain ⟨⟨kn, kno⟩, ⟨ku, kuo⟩⟩ := k4
  rcases kn.2 with ⟨_, h0⟩ | ⟨bu, cap, cur, hv, hb, hg, hr'⟩
  · omega
  · injection hv with hA
    have hob : ρ bu = g + 8 := kno bu (by rw [hA]; rfl)
    have kn' := kn
    rw [hA] at kn'
    refine ⟨bu, hA, k1.cell 2, ?_, World.ownsRow.frozenAt kn' _, fun v => ?_⟩
    · rw [World.ownsRow.cellAt kn' (n * 2 + 1) (by omega)]; exact (nds_get a.pu.cl n hn).2
    · have f : Fs (· = g + 8) ρ w ρ (w.setCell ⟨bu, n * 2 + 1, none⟩ (.int .i64 v)) := Fs.set _ _ _ _ _ _ hob
      have o : Ot 102 w (w.setCell ⟨bu, n * 2 + 1, none⟩ (.int .i64 v)) := Ot.set hg _ _
      refine ⟨⟨o _ _ _ (by decide) h.blk, h.own, Tod.ot h.tod o f (by decide), h.acc.mono fun x v k => k.fs f (by omega), fun gp' hg' => ?_⟩, f⟩
      have e : gp' = gp := by rw [hr] at hg'; injection hg' with hg'; exact hg'.symm
      subst e
      refine ⟨?_, k2, k3.fs f (by omega), ?_⟩
      · have := o _ _ _ (by decide) k1; unfold puV at this ⊢; simpa only [List.length_set] using this
      · simp only [hf, if_true, List.length_set]
        refine ⟨⟨?_, by simpa only [List.length_set] using kno⟩, OwR.ot ⟨ku, kuo⟩ o f (by decide)⟩
        rw [hA, nds_setC _ _ _ hn]
        exact (World.ownsRow.stored kn' (n * 2 + 1) (.int .i64 v)).1
end
def offC (off : Bool) (c : Int) : Int := if off = true then 2 else c
theorem MadeT.new {base g0 g : Nat} {ρ ρ1 : Nat → Nat} {q : Gq} {gp : Option Nat} {w w' : World} {v v' : Value} {G : Gp} {r' : Aq} {a' : Ap} (hv : v = v') (f : Fs (· = g + 8) ρ w ρ1 w') (hG : Gt base ρ1 w' g0 q G) (hA : Ac ρ1 w' g0 g r' a') (hp : r'.gp = gp) : MadeT base ρ q g0 g gp w v G a' (.returned v') w' := ⟨by rw [hv], ρ1, r', f, hG, hA, hp⟩
theorem store1_any (base : Nat) (ρ : Nat → Nat) (q : Gq) (r : Aq) (g0 g b1 b2 b3 : Nat) (l v : Int) (G : Gp) (a : Ap) (w : World) (HG : Hid (Gt base ρ w g0 q G)) (ha : Hid (Ac ρ w g0 g r a)) (hv : Vs G) (k1 : B1 ρ w b1 46 #[pv g]) (k2 : B1 ρ w b2 3 #[.int .i64 l]) (k3 : B1 ρ w b3 2 #[.int .i64 v]) :
    Calls Tryz.prog 173 #[pv b1, pv b2, pv b3] w (MadeG base ρ q g0 w (.bool true) { G with cs := storeF G.cs l v }) := by
  have hwl := hv.wl
  have hhl := hv.hl
  have t0 := B1.c k1
  have t1 := B1.c k2
  have t5 := B1.c k3
  have t2 := Ac.c0 ha.out
  have t4 := Gt.c7 HG.out
  let T : World → Prop := fun w' => w'.cell? (α b1 0) = some (.pointer (some (α g 0))) ∧ w'.cell? (α b2 0) = some (ι l) ∧ w'.cell? (α b3 0) = some (ι v) ∧ w'.cell? (α g 0) = some (.pointer (some (α g0 0))) ∧ w'.cell? (α g0 7) = some (.pointer (some (α q.gc 0)))
  have HT : Hid (T w.drew) := κ ⟨t0, t1, t5, t2, t4⟩
  have CT := Cn.store_any q.gc q.gw q.gh G.cs l v w.drew (κ ⟨HG.out.cs.c, HG.out.cs.cw, HG.out.cs.ch, HG.out.cs.n1, HG.out.cs.n2, HG.out.cs.n3⟩) (by omega) (by omega)
  go_enter Tryz.func173, Tryz.ntmps173
  go_upto_region 1 with fail
  refine Ω T [] ?_
  refine jB 0 HT.out ?_
  refine jA 1 HT.out ?_
  refine jA 2 HT.out ?_
  refine jB 3 HT.out ?_
  refine jA 4 HT.out ?_
  refine jA 5 HT.out ?_
  refine jB 6 HT.out ?_
  refine jB 7 HT.out ?_
  refine jB 8 HT.out ?_
  refine jN 9 fun K' hK => ?_
  go_simp
  refine CT.mono ?_
  rintro e w9 ⟨rfl, hc, hk⟩
  have hk := kept_drew hk
  have F : Fs (· = 2) ρ w ρ w9 := Fs.kept hk HG.out.o2.1 HG.out.o2.2.1 HG.out.o2.2.2
  have H9 : Hid (T w9) := κ ⟨ce F t0 k1.2 (by decide), ce F t1 k2.2 (by decide), ce F t5 k3.2 (by decide), ce F t2 ha.out.own (by omega), ce F t4 HG.out.o0 (by decide)⟩
  refine hK.out _ _ H9.out ?_
  clear hK K'
  refine jP ?_
  refine Δ ?_
  clear CT HT H9
  go_wp2_with fail
  go_ret
  exact madeG_mk HG.out hc hk
theorem seeUsed1_any (base : Nat) (ρ : Nat → Nat) (q : Gq) (r : Aq) (g0 g b1 b2 gp n : Nat) (v : Int) (G : Gp) (a : Ap) (w : World) (HG : Hid (Gt base ρ w g0 q G)) (ha : Hid (Ac ρ w g0 g r a)) (hgp : r.gp = some gp) (hf : a.pu.fr = true) (hn : n < a.pu.cu.length) (hm : a.pu.cu.length ≤ 1000) (k1 : B1 ρ w b1 184 #[pv gp]) (k2 : B1 ρ w b2 3 #[.int .i64 (n : Int)]) :
    Calls Tryz.prog 153 #[.int .i64 v, pv b1, pv b2] w (MadeT base ρ q g0 g r.gp w (.tuple #[]) G { a with pu := { a.pu with cu := a.pu.cu.set n v } }) := by
  obtain ⟨bu, hA, t2, t3, t4, hset⟩ := used_at ha.out hgp hf hn
  rw [hA] at t2
  have HS := κ (hset v)
  have t0 := B1.c k1
  have t1 := B1.c k2
  obtain ⟨m, hmm⟩ : ∃ m, m = a.pu.cu.length := ⟨_, rfl⟩
  rw [← hmm] at t2 hn hm
  have HGP := κ hgp
  clear hmm hset hA hgp hf
  let T : World → Prop := fun w' => w'.cell? (α b1 0) = some (.pointer (some (α gp 0))) ∧ w'.cell? (α b2 0) = some (ι (n : Int)) ∧ w'.cell? (α gp 3) = some (.slice (some (α bu 0)) m r.cu)
  have HT : Hid (T w.drew) := κ ⟨t0, t1, t2⟩
  go_enter Tryz.func153, Tryz.ntmps153
  go_upto_region 0 with fail
  refine Ω T [8] ?_
  refine jB 0 HT.out ?_
  refine jA 1 HT.out ?_
  refine jA 2 HT.out ?_
  refine jA 3 HT.out ?_
  refine jB 4 HT.out ?_
  refine jB 5 HT.out ?_
  refine jA 6 HT.out ?_
  refine jA 7 HT.out ?_
  refine jV 8 fun K' hK => ?_
  go_simp
  refine hK.out _ _ ?_
  clear hK K'
  refine jP ?_
  refine Δ ?_
  go_wp2_with fail
  exact bodyPost_ret (v := .tuple #[]) (by simp [results, Tryz.results153, go_sem]) rfl (MadeT.new rfl HS.out.2.drew (Gt.fs HG.out HS.out.2.drew (fun k hk => HG.out.new k (by simpa [World.setCell, World.drew] using hk)) (fun i hi => by omega)) (Ac.ext HS.out.1 (Below.refl _ _).drew) rfl)
theorem seeCaps1_any (base : Nat) (ρ : Nat → Nat) (q : Gq) (r : Aq) (g0 g b1 b2 gp n : Nat) (v : Int) (G : Gp) (a : Ap) (w : World) (HG : Hid (Gt base ρ w g0 q G)) (ha : Hid (Ac ρ w g0 g r a)) (hgp : r.gp = some gp) (hf : a.pu.fr = true) (hn : n < a.pu.cl.length) (hm : a.pu.cl.length ≤ 1000) (k1 : B1 ρ w b1 184 #[pv gp]) (k2 : B1 ρ w b2 3 #[.int .i64 (n : Int)]) :
    Calls Tryz.prog 154 #[.int .i64 v, pv b1, pv b2] w (MadeT base ρ q g0 g r.gp w (.tuple #[]) G { a with pu := { a.pu with cl := a.pu.cl.set n ((a.pu.cl.getD n (0, 0)).1, v) } }) := by
  obtain ⟨bu, hA, t2, t3, t4, hset⟩ := caps_at ha.out hgp hf hn
  rw [hA] at t2
  have HS := κ (hset v)
  have t0 := B1.c k1
  have t1 := B1.c k2
  obtain ⟨m, hmm⟩ : ∃ m, m = a.pu.cl.length := ⟨_, rfl⟩
  rw [← hmm] at t2 hn hm
  have HGP := κ hgp
  clear hmm hset hA hgp hf
  let T : World → Prop := fun w' => w'.cell? (α b1 0) = some (.pointer (some (α gp 0))) ∧ w'.cell? (α b2 0) = some (ι (n : Int)) ∧ w'.cell? (α gp 2) = some (.slice (some (α bu 0)) m r.cn)
  have HT : Hid (T w.drew) := κ ⟨t0, t1, t2⟩
  go_enter Tryz.func154, Tryz.ntmps154
  go_upto_region 0 with fail
  refine Ω T [9] ?_
  refine jB 0 HT.out ?_
  refine jA 1 HT.out ?_
  refine jA 2 HT.out ?_
  refine jA 3 HT.out ?_
  refine jB 4 HT.out ?_
  refine jB 5 HT.out ?_
  refine jA 6 HT.out ?_
  refine jA 7 HT.out ?_
  refine jA 8 HT.out ?_
  refine jV 9 fun K' hK => ?_
  go_simp
  refine hK.out _ _ ?_
  clear hK K'
  refine jP ?_
  refine Δ ?_
  go_wp2_with fail
  exact bodyPost_ret (v := .tuple #[]) (by simp [results, Tryz.results154, go_sem]) rfl (MadeT.new rfl HS.out.2.drew (Gt.fs HG.out HS.out.2.drew (fun k hk => HG.out.new k (by simpa [World.setCell, World.drew] using hk)) (fun i hi => by omega)) (Ac.ext HS.out.1 (Below.refl _ _).drew) rfl)
theorem refuse1_any (base : Nat) (ρ : Nat → Nat) (q : Gq) (r : Aq) (g0 g b1 b2 : Nat) (c ep : Int) (off : Bool) (G : Gp) (a : Ap) (w : World) (HG : Hid (Gt base ρ w g0 q G)) (ha : Hid (Ac ρ w g0 g r a)) (k1 : B1 ρ w b1 37 #[.int .i64 c]) (k2 : B1 ρ w b2 46 #[pv g]) :
    Calls Tryz.prog 102 #[.agg #[.int .i64 ep, .bool off], pv b1, pv b2] w (MadeT base ρ q g0 g r.gp w (.tuple #[]) G { a with c := c }) := by
  have b0 := β w (.cells #[.int .i64 ep, .bool off] 178)
  have G1 := κ (Gt.ext HG.out b0)
  have A1 := κ (Ac.ext ha.out b0)
  have t0 := B1.c (B1.ext k1 b0)
  have t1 := B1.c (B1.ext k2 b0)
  have t2 := Ac.c4 A1.out
  have t3 := Ac.z A1.out 4
  have HS := κ (Ac.set A1.out 4 (.int .i64 c) { a with c := c } rfl rfl rfl)
  have F1 : Hid (Fs (· = g + 8) ρ w ρ (w.alloc (.cells #[.int .i64 ep, .bool off] 178))) := κ (Fs.quiet b0)
  clear b0
  go_enter Tryz.func102, Tryz.ntmps102
  go_upto_region 1 with fail
  generalize w.alloc (.cells #[.int .i64 ep, .bool off] 178) = w1 at G1 A1 t0 t1 t2 t3 HS F1 ⊢
  go_wp2_with fail
  exact bodyPost_ret (v := .tuple #[]) (by simp [results, Tryz.results102, go_sem]) rfl (MadeT.new rfl (F1.out.trans HS.out.2) (Gt.fs G1.out HS.out.2 (fun k hk => G1.out.new k (by simpa [World.setCell] using hk)) (fun i hi => by omega)) HS.out.1 rfl)
theorem order1_any (base : Nat) (ρ : Nat → Nat) (q : Gq) (r : Aq) (g0 g b1 b2 : Nat) (c ep : Int) (off : Bool) (G : Gp) (a : Ap) (w : World) (HG : Hid (Gt base ρ w g0 q G)) (ha : Hid (Ac ρ w g0 g r a)) (k1 : B1 ρ w b1 37 #[.int .i64 c]) (k2 : B1 ρ w b2 46 #[pv g]) :
    Calls Tryz.prog 104 #[.agg #[.int .i64 ep, .bool off], pv b1, pv b2] w (MadeT base ρ q g0 g r.gp w (.tuple #[]) G { a with c := offC off c }) := by
  have b0 := (β w (.cells #[.int .i64 ep, .bool off] 178)).drew
  have G1 := κ (Gt.ext HG.out b0)
  have A1 := κ (Ac.ext ha.out b0)
  have K1 := κ (B1.ext k1 b0)
  have K2 := κ (B1.ext k2 b0)
  have K3 := κ (B1.ext (B1.mk (b := w.heap.size) (te := 178) (cs := #[.int .i64 ep, .bool off]) HG.out.new rfl) (Below.refl _ _).drew)
  have F1 : Hid (Fs (· = g + 8) ρ w ρ (w.alloc (.cells #[.int .i64 ep, .bool off] 178)).drew) := κ (Fs.quiet b0)
  clear b0
  go_enter Tryz.func104, Tryz.ntmps104
  go_upto_region 1 with fail
  obtain ⟨gb, hgb⟩ : ∃ x, x = w.heap.size := ⟨_, rfl⟩
  simp only [← hgb] at K3 ⊢
  clear hgb
  let T : World → Prop := fun w' => w'.cell? (α b1 0) = some (ι c) ∧ w'.cell? (α b2 0) = some (.pointer (some (α g 0))) ∧ w'.cell? (α gb 0) = some (ι ep) ∧ w'.cell? (α gb 1) = some (.bool off)
  have HT : Hid (T (w.alloc (.cells #[.int .i64 ep, .bool off] 178)).drew) := κ ⟨B1.c K1.out, B1.c K2.out, K3.out.1.cell 0, K3.out.1.cell 1⟩
  refine Ω T [7] ?_
  generalize (w.alloc (.cells #[.int .i64 ep, .bool off] 178)).drew = wd at G1 A1 K1 K2 K3 F1 HT ⊢
  refine jB 0 HT.out ?_
  refine jB 1 HT.out ?_
  refine jB 2 HT.out ?_
  refine jN 3 fun K' hK => ?_
  go_simp
  refine (show Calls Tryz.prog 105 #[.agg #[.int .i64 ep, .bool off], .int .i64 c] wd (MadeV (.int .i64 (offC off c)) wd) from unlessOff_any ep c off wd).mono ?_
  rintro e w2 ⟨rfl, hb2⟩
  have G2 := κ (Gt.ext G1.out hb2)
  have A2 := κ (Ac.ext A1.out hb2)
  have K1' := B1.ext K1.out hb2
  have K2' := B1.ext K2.out hb2
  have K3' := B1.ext K3.out hb2
  have P2 : Hid (T w2) := κ ⟨B1.c K1', B1.c K2', K3'.1.cell 0, K3'.1.cell 1⟩
  have F2 := κ (F1.out.trans (Fs.quiet hb2))
  have t2 := Ac.c4 A2.out
  have t3 := Ac.z A2.out 4
  have HS := κ (Ac.set A2.out 4 (.int .i64 (offC off c)) { a with c := offC off c } rfl rfl rfl)
  clear K1' K2' K3' hb2
  refine hK.out _ _ P2.out ?_
  clear hK K'
  refine jP ?_
  refine jA 4 P2.out ?_
  refine jA 5 P2.out ?_
  refine jA 6 P2.out ?_
  refine jV 7 fun K' hK => ?_
  go_simp
  refine hK.out _ _ ?_
  clear hK K'
  refine jP ?_
  refine Δ ?_
  go_wp2_with fail
  exact bodyPost_ret (v := .tuple #[]) (by simp [results, Tryz.results104, go_sem]) rfl (MadeT.new rfl (F2.out.trans HS.out.2) (Gt.fs G2.out HS.out.2 (fun k hk => G2.out.new k (by simpa [World.setCell] using hk)) (fun i hi => by omega)) HS.out.1 rfl)
theorem turn1_any (base : Nat) (ρ : Nat → Nat) (q : Gq) (r : Aq) (g0 g p b1 : Nat) (G : Gp) (a : Ap) (w : World) (HG : Hid (Gt base ρ w g0 q G)) (ha : Hid (Ac ρ w g0 g r a)) (hV : Vs G) (hp : a.place = p) (hpl : p < G.log.length) (hll : G.log.length ≤ 1000000) (k1 : B1 ρ w b1 46 #[pv g]) :
    Calls Tryz.prog 168 #[pv b1] w (MadeL base ρ q g0 w (.tuple #[]) (markG G p)) := by
  have b0 : Below w.heap.size w w.drew := (Below.refl _ _).drew
  have GD := κ (Gt.ext HG.out b0)
  have AD := κ (Ac.ext ha.out b0)
  have K1 := κ (B1.ext k1 b0)
  have FD : Hid (Fs (· = 5) ρ w ρ w.drew) := κ (Fs.quiet b0)
  let T : World → Prop := fun w' => w'.cell? (α b1 0) = some (.pointer (some (α g 0))) ∧ w'.cell? (α g 0) = some (.pointer (some (α g0 0))) ∧ w'.cell? (α g 2) = some (ι (p : Int))
  have c2 : w.drew.cell? ⟨g, 2, none⟩ = some (.int .i64 (p : Int)) := by rw [← hp]; exact Ac.c2 AD.out
  have HT : Hid (T w.drew) := κ ⟨B1.c K1.out, Ac.c0 AD.out, c2⟩
  have CM := mark_any base ρ q g0 p G w.drew GD hV hpl hll
  clear b0
  go_enter Tryz.func168, Tryz.ntmps168
  go_upto_region 0 with fail
  refine Ω T [] ?_
  generalize w.drew = wd at GD AD K1 FD HT CM ⊢
  refine jB 0 HT.out ?_
  refine jA 1 HT.out ?_
  refine jA 2 HT.out ?_
  refine jB 3 HT.out ?_
  refine jB 4 HT.out ?_
  refine jA 5 HT.out ?_
  refine jA 6 HT.out ?_
  refine jB 7 HT.out ?_
  refine jN 8 fun K' hK => ?_
  go_simp
  refine CM.mono ?_
  rintro e w2 ⟨rfl, g2, f2⟩
  have P2 : Hid (T w2) := κ ⟨ce f2 HT.out.1 K1.out.2 (by decide), ce f2 HT.out.2.1 AD.out.own (by omega), ce f2 HT.out.2.2 AD.out.own (by omega)⟩
  have g2 := κ g2
  have f2 := κ f2
  refine hK.out _ _ P2.out ?_
  clear hK K'
  refine jP ?_
  refine Δ ?_
  go_wp2_with fail
  exact bodyPost_ret (v := .tuple #[]) (by simp [results, Tryz.results168, go_sem]) rfl ⟨rfl, g2.out, FD.out.trans f2.out⟩
theorem limit1_any (base : Nat) (ρ : Nat → Nat) (q : Gq) (r : Aq) (g0 g p b1 b2 : Nat) (G : Gp) (a : Ap) (w : World) (HG : Hid (Gt base ρ w g0 q G)) (ha : Hid (Ac ρ w g0 g r a)) (hV : Vs G) (hp : a.place = p) (hpl : p < G.log.length) (hll : G.log.length ≤ 1000000) (k1 : B1 ρ w b1 36 #[pv g0]) (k2 : B1 ρ w b2 46 #[pv g]) :
    Calls Tryz.prog 141 #[pv b1, pv b2] w (MadeL base ρ q g0 w (.tuple #[]) (markG G p)) := by
  have b0 : Below w.heap.size w w.drew := (Below.refl _ _).drew
  have GD := κ (Gt.ext HG.out b0)
  have AD := κ (Ac.ext ha.out b0)
  have K1 := κ (B1.ext k1 b0)
  have K2 := κ (B1.ext k2 b0)
  have FD : Hid (Fs (· = 5) ρ w ρ w.drew) := κ (Fs.quiet b0)
  let T : World → Prop := fun w' => w'.cell? (α b1 0) = some (.pointer (some (α g0 0))) ∧ w'.cell? (α b2 0) = some (.pointer (some (α g 0))) ∧ w'.cell? (α g 2) = some (ι (p : Int))
  have c2 : w.drew.cell? ⟨g, 2, none⟩ = some (.int .i64 (p : Int)) := by rw [← hp]; exact Ac.c2 AD.out
  have HT : Hid (T w.drew) := κ ⟨B1.c K1.out, B1.c K2.out, c2⟩
  have CM := mark_any base ρ q g0 p G w.drew GD hV hpl hll
  clear b0
  go_enter Tryz.func141, Tryz.ntmps141
  go_upto_region 0 with fail
  refine Ω T [] ?_
  generalize w.drew = wd at GD AD K1 FD HT CM ⊢
  refine jB 0 HT.out ?_
  refine jB 1 HT.out ?_
  refine jA 2 HT.out ?_
  refine jA 3 HT.out ?_
  refine jB 4 HT.out ?_
  refine jN 5 fun K' hK => ?_
  go_simp
  refine CM.mono ?_
  rintro e w2 ⟨rfl, g2, f2⟩
  have P2 : Hid (T w2) := κ ⟨ce f2 HT.out.1 K1.out.2 (by decide), ce f2 HT.out.2.1 K2.out.2 (by decide), ce f2 HT.out.2.2 AD.out.own (by omega)⟩
  have g2 := κ g2
  have f2 := κ f2
  refine hK.out _ _ P2.out ?_
  clear hK K'
  refine jP ?_
  refine Δ ?_
  go_wp2_with fail
  exact bodyPost_ret (v := .tuple #[]) (by simp [results, Tryz.results141, go_sem]) rfl ⟨rfl, g2.out, FD.out.trans f2.out⟩
end Gx1
end Go.Proofs.YtaeddnjjeholgaaGreat
