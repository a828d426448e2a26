/- Texts side by side. -/
import Derived.Deep.AppendLies
import Derived.Test.YtaeddnjjeholgaaGreatUgbl
set_option linter.unusedVariables false
set_option linter.unusedSimpArgs false
set_option maxRecDepth 100000
set_option maxHeartbeats 16000000
namespace Go.Proofs.YtaeddnjjeholgaaGreat
open Kap Lat Lax Go.ChangeShapes Go.WideShapes Go.ChangeAt Go.RowKit Go.Lib Mem Cel Bkp Bks Wpl Hpa Gpl Mdp Cfg Gow Gac Gat Gup Gex
namespace Gma
def MadeL (base : Nat) (ρ : Nat → Nat) (q : Gq) (g0 : Nat) (w : World) (v : Value) (G' : Gp) (e : Ending) (w' : World) : Prop := e = .returned v ∧ Gt base ρ w' g0 q G' ∧ Fs (· = 5) ρ w ρ w'
theorem log_at {base : Nat} {ρ : Nat → Nat} {w : World} {g0 : Nat} {q : Gq} {G : Gp} (h : Gt base ρ w g0 q G) (h0 : 0 < G.log.length) : ∃ gl, q.Al = some ⟨gl, 0, none⟩ ∧ ρ gl = 5 := by
  rcases h.log.1.2 with ⟨_, h1⟩ | ⟨g, cap, cur, hv, _⟩
  · omega
  · injection hv with hA
    exact ⟨g, hA, h.log.2 g (by rw [hA]; rfl)⟩
theorem log_cells {w : World} {gl n c p : Nat} {E : List He} (h : w.ownsRow 0 123 21 (.slice (some ⟨gl, 0, none⟩) n c) n (hrow E)) (hn : n = E.length) (hp : p < E.length) (j : Nat) (hj : j < 21) : w.cell? ⟨gl, p * 21 + j, none⟩ = (hv (gH E p))[j]? ∧ w.frozen? ⟨gl, p * 21 + j, none⟩ = false := by
  subst hn
  exact ⟨(World.ownsRow.cellAt h _ (by omega)).trans (hrow_get E p j hp hj), World.ownsRow.frozenAt h _⟩
theorem wpL_two {P : Program} {ops : Array Oper} {Q : Exit → Act → World → Prop} {md : Region.Mode} {T : World → Prop} {st : List Nat} {m n k : Nat} {om on : Oper} {up : Array Bool} {a : Act} {w : World} (hr : Region.ready md ops up = [m, n]) (hm : ops[m]? = some om) (hn : ops[n]? = some on)
    (h1 : ∀ K : Act → World → Prop, Shut (∀ a w, T w → wpL P md ops Q T st k (up.setIfInBounds m true) a w → K a w) → if Region.wanted om (yielded ops a.tmps) = true then Oper.wp P om a w K Q else K (a.put om.dst undef) w)
    (h2 : ∀ K : Act → World → Prop, Shut (∀ a w, T w → wpL P md ops Q T st k (up.setIfInBounds n true) a w → K a w) → if Region.wanted on (yielded ops a.tmps) = true then Oper.wp P on a w K Q else K (a.put on.dst undef) w) :
    wpL P md ops Q T st (k + 1) up a w := by
  refine ⟨fun h0 => (by rw [hr] at h0; cases h0), ?_⟩
  rw [hr]
  intro j hj
  simp only [List.mem_cons, List.not_mem_nil, or_false] at hj
  rcases hj with rfl | rfl
  · exact wpOp_step hm (fun K hK => h1 K (fun a w hT hW => hK a w ⟨fun _ => hT, hW⟩))
  · exact wpOp_step hn (fun K hK => h2 K (fun a w hT hW => hK a w ⟨fun _ => hT, hW⟩))
theorem madeL_mk {base : Nat} {ρ : Nat → Nat} {w : World} {g0 gl p j : Nat} {q : Gq} {G : Gp} {u v : Value} (h : Gt base ρ w g0 q G) (hgl : ρ gl = 5) (hp : p < G.log.length) (hA : q.Al = some ⟨gl, 0, none⟩) (hj : j < 21) (x : He) (hx : hv x = (hv (gH G.log p)).set j u) : MadeL base ρ q g0 w v { G with log := G.log.set p x } (.returned v) (w.setCell ⟨gl, p * 21 + j, none⟩ u).drew := by
  have e : Fs (· = 5) ρ w ρ (w.setCell ⟨gl, p * 21 + j, none⟩ u).drew := (Fs.set _ _ _ _ _ _ hgl).drew
  refine ⟨rfl, Gt.logset h x e (fun k hk => h.new k (by simpa [World.setCell] using hk)) ?_, e⟩
  have ow := h.log.1
  rw [hA] at ow ⊢
  rw [hrow_set _ _ _ hp hj hx]
  exact (World.ownsRow.stored ow (p * 21 + j) u).1
theorem mark_any (base : Nat) (ρ : Nat → Nat) (q : Gq) (g0 p : Nat) (G : Gp) (w : World) (HG : Hid (Gt base ρ w g0 q G)) (hv : Vs G) (hp : p < G.log.length) (hl : G.log.length ≤ 1000000) :
    Calls Tryz.prog 137 #[pv g0, .int .i64 (p : Int)] w (MadeL base ρ q g0 w (.tuple #[]) (markG G p)) := by
  have hwl := hv.wl
  have hhl := hv.hl
  obtain ⟨gl, hA, hgl⟩ := log_at HG.out (by omega)
  have ow : Hid (w.ownsRow 0 123 21 (.slice (some ⟨gl, 0, none⟩) G.log.length q.cl) G.log.length (hrow G.log)) := κ (by have := HG.out.log.1; rwa [hA] at this)
  have t1 := Gt.c10 HG.out
  rw [hA] at t1
  have t0 := Gt.c7 HG.out
  have c0 := log_cells ow.out rfl hp 2 (by decide)
  obtain ⟨n, hn⟩ : ∃ n, n = G.log.length := ⟨_, rfl⟩
  rw [← hn] at t1 hl hp
  have HN := κ hn
  clear hn
  have hA' := κ hA
  clear hA
  have z0 := χ c0.1
  have z1 := c0.2
  unfold pv at t0 ⊢
  let T : World → Prop := fun w' => w'.cell? (α g0 7) = some (.pointer (some (α q.gc 0))) ∧ w'.cell? (α g0 10) = some (.slice (some (α gl 0)) n q.cl)
  have HT : Hid (T w.drew) := κ ⟨t0, t1⟩
  have CT := Cn.time_any q.gc q.gw q.gh G.cs w.drew (κ ⟨HG.out.cs.c, HG.out.cs.cw, HG.out.cs.ch, HG.out.cs.n1, HG.out.cs.n2, HG.out.cs.n3⟩) (by omega) (by omega)
  go_enter Tryz.func137, Tryz.ntmps137
  go_upto_region 0 with fail
  refine Ω T [12] ?_
  refine jA 0 HT.out ?_
  refine jA 1 HT.out ?_
  refine jA 2 HT.out ?_
  refine jB 3 HT.out ?_
  refine jA 4 HT.out ?_
  refine jA 5 HT.out ?_
  refine jA 6 HT.out ?_
  refine jA 7 HT.out ?_
  refine jB 8 HT.out ?_
  refine jN 9 fun K' hK => ?_
  go_simp
  refine CT.mono ?_
  rintro e w9 ⟨rfl, rfl⟩
  refine hK.out _ _ HT.out ?_
  clear hK K'
  refine jP ?_
  refine jA 10 HT.out ?_
  refine jA 11 HT.out ?_
  refine jV 12 fun K' hK => ?_
  go_simp
  refine hK.out _ _ ?_
  clear hK K'
  refine jP ?_
  refine Δ ?_
  clear CT HT
  go_wp2_with fail
  exact bodyPost_ret (v := .tuple #[]) (by simp [results, Tryz.results137, go_sem]) rfl (madeL_mk HG.out hgl (by rw [← HN.out]; exact hp) hA'.out (by decide) { gH G.log p with k := G.cs.t } rfl)
theorem log_step {base : Nat} {ρ : Nat → Nat} {w : World} {g0 gl p j : Nat} {q : Gq} {G : Gp} {u : Value} (h : Gt base ρ w g0 q G) (hgl : ρ gl = 5) (hp : p < G.log.length) (hA : q.Al = some ⟨gl, 0, none⟩) (hj : j < 21) (x : He) (hx : hv x = (hv (gH G.log p)).set j u) : Gt base ρ (w.setCell ⟨gl, p * 21 + j, none⟩ u) g0 q { G with log := G.log.set p x } ∧ Fs (· = 5) ρ w ρ (w.setCell ⟨gl, p * 21 + j, none⟩ u) := by
  have e : Fs (· = 5) ρ w ρ (w.setCell ⟨gl, p * 21 + j, none⟩ u) := Fs.set _ _ _ _ _ _ hgl
  refine ⟨Gt.logset h x e (fun k hk => h.new k (by simpa [World.setCell] using hk)) ?_, e⟩
  have ow := h.log.1
  rw [hA] at ow ⊢
  rw [hrow_set _ _ _ hp hj hx]
  exact (World.ownsRow.stored ow (p * 21 + j) u).1
theorem gH_set (E : List He) (p : Nat) (x : He) (h : p < E.length) : gH (E.set p x) p = x := by simp [gH, h]
theorem end_steps {base : Nat} {ρ : Nat → Nat} {w0 w : World} {g0 gl p : Nat} {q : Gq} {G : Gp} {t c d : Int} {v : Value} (h0 : Fs (· = 5) ρ w0 ρ w) (h : Gt base ρ w g0 q G) (hgl : ρ gl = 5) (hp : p < G.log.length) (hA : q.Al = some ⟨gl, 0, none⟩) (ht : t = G.cs.t) : MadeL base ρ q g0 w0 v (endG G p c d) (.returned v) (((w.setCell ⟨gl, p * 21 + 3, none⟩ (.int .i64 t)).setCell ⟨gl, p * 21 + 19, none⟩ (.int .i64 c)).setCell ⟨gl, p * 21 + 20, none⟩ (.int .i64 d)).drew := by
  subst ht
  obtain ⟨a1, e1⟩ := log_step h hgl hp hA (j := 3) (by decide) { gH G.log p with e := G.cs.t } rfl
  obtain ⟨a2, e2⟩ := log_step a1 hgl (by simpa using hp) hA (j := 19) (u := .int .i64 c) (by decide) { gH G.log p with e := G.cs.t, c := c } (by rw [gH_set _ _ _ hp]; rfl)
  obtain ⟨a3, e3⟩ := log_step a2 hgl (by simpa using hp) hA (j := 20) (u := .int .i64 d) (by decide) { gH G.log p with e := G.cs.t, c := c, d := d } (by rw [gH_set _ _ _ (by simpa using hp)]; rfl)
  have e := ((h0.trans e1).trans e2).trans e3
  refine ⟨rfl, ?_, e.drew⟩
  have h3 := Gt.fs a3 (Fs.drewed (C := fun _ => False)) a3.new (fun _ _ h => h)
  have h4 : Gt base ρ (((w.setCell ⟨gl, p * 21 + 3, none⟩ (.int .i64 G.cs.t)).setCell ⟨gl, p * 21 + 19, none⟩ (.int .i64 c)).setCell ⟨gl, p * 21 + 20, none⟩ (.int .i64 d)).drew g0 q { G with log := G.log.set p { gH G.log p with e := G.cs.t, c := c, d := d } } := by simpa only [List.set_set] using h3
  exact h4
theorem end_any (base : Nat) (ρ : Nat → Nat) (q : Gq) (g0 p : Nat) (c d : Int) (G : Gp) (w : World) (HG : Hid (Gt base ρ w g0 q G)) (hv : Vs G) (hp : p < G.log.length) (hl : G.log.length ≤ 1000000) :
    Calls Tryz.prog 54 #[pv g0, .int .i64 (p : Int), .agg #[.int .i64 c, .int .i64 d]] w (MadeL base ρ q g0 w (.tuple #[]) (endG G p c d)) := by
  have hwl := hv.wl
  have hhl := hv.hl
  have F0 : Hid (Fs (· = 5) ρ w ρ (w.alloc (.cells #[.int .i64 c, .int .i64 d] 66))) := κ (Fs.alloc _)
  have HG1 : Hid (Gt base ρ (w.alloc (.cells #[.int .i64 c, .int .i64 d] 66)) g0 q G) := κ (Gt.fs HG.out (Fs.alloc (C := fun _ => False) _) (fun k hk => HG.out.new k (by simp at hk; omega)) (fun _ _ h => h))
  have K1 : Blk (w.alloc (.cells #[.int .i64 c, .int .i64 d] 66)) w.heap.size 66 #[.int .i64 c, .int .i64 d] := Blk.fresh _ _ _
  go_enter Tryz.func54, Tryz.ntmps54
  go_upto_region 1 with fail
  unfold pv
  obtain ⟨gb, hgb⟩ : ∃ g, g = w.heap.size := ⟨_, rfl⟩
  simp only [← hgb] at K1 ⊢
  clear hgb
  generalize w.alloc (.cells #[.int .i64 c, .int .i64 d] 66) = w1 at F0 HG1 K1 ⊢
  obtain ⟨gl, hA, hgl⟩ := log_at HG1.out (by omega)
  have ow : Hid (w1.ownsRow 0 123 21 (.slice (some ⟨gl, 0, none⟩) G.log.length q.cl) G.log.length (hrow G.log)) := κ (by have := HG1.out.log.1; rwa [hA] at this)
  have t1 := Gt.c10 HG1.out
  rw [hA] at t1
  have t0 := Gt.c7 HG1.out
  have t2 := χ (K1.cell 0)
  have t3 := χ (K1.cell 1)
  have c0 := log_cells ow.out rfl hp 3 (by decide)
  have c1 := log_cells ow.out rfl hp 19 (by decide)
  have c2 := log_cells ow.out rfl hp 20 (by decide)
  obtain ⟨n, hn⟩ : ∃ n, n = G.log.length := ⟨_, rfl⟩
  rw [← hn] at t1 hl hp
  have HN := κ hn
  clear hn
  have hA' := κ hA
  clear hA
  have z0 := χ c0.1
  have z1 := c0.2
  have z2 : ∀ u, (w1.setCell (α gl (p * 21 + 3)) u).cell? (α gl (p * 21 + 19)) = some (ι (gH G.log p).c) := fun u => ω _ _ (χ c1.1)
  have z3 : ∀ u, (w1.setCell (α gl (p * 21 + 3)) u).frozen? (α gl (p * 21 + 19)) = false := fun u => φ _ _ c1.2
  have z4 : ∀ u v, ((w1.setCell (α gl (p * 21 + 3)) u).setCell (α gl (p * 21 + 19)) v).cell? (α gl (p * 21 + 20)) = some (ι (gH G.log p).d) := fun u v => ω _ _ (ω _ _ (χ c2.1))
  have z5 : ∀ u v, ((w1.setCell (α gl (p * 21 + 3)) u).setCell (α gl (p * 21 + 19)) v).frozen? (α gl (p * 21 + 20)) = false := fun u v => φ _ _ (φ _ _ c2.2)
  let T : World → Prop := fun w' => w'.cell? (α g0 7) = some (.pointer (some (α q.gc 0))) ∧ w'.cell? (α g0 10) = some (.slice (some (α gl 0)) n q.cl) ∧ w'.cell? (α gb 0) = some (ι c) ∧ w'.cell? (α gb 1) = some (ι d)
  have HT : Hid (T w1.drew) := κ ⟨t0, t1, t2, t3⟩
  have CT := Cn.time_any q.gc q.gw q.gh G.cs w1.drew (κ ⟨HG1.out.cs.c, HG1.out.cs.cw, HG1.out.cs.ch, HG1.out.cs.n1, HG1.out.cs.n2, HG1.out.cs.n3⟩) (by omega) (by omega)
  refine Ω T [] ?_
  refine jA 0 HT.out ?_
  refine jA 1 HT.out ?_
  refine jA 2 HT.out ?_
  refine jB 3 HT.out ?_
  refine jA 4 HT.out ?_
  refine jA 5 HT.out ?_
  refine jA 6 HT.out ?_
  refine jA 7 HT.out ?_
  refine jB 8 HT.out ?_
  refine jA 9 HT.out ?_
  refine jA 10 HT.out ?_
  refine jA 11 HT.out ?_
  refine jA 12 HT.out ?_
  refine jB 13 HT.out ?_
  refine jB 15 HT.out ?_
  refine jN 14 fun K' hK => ?_
  go_simp
  refine CT.mono ?_
  rintro e w9 ⟨rfl, rfl⟩
  refine hK.out _ _ HT.out ?_
  clear hK K'
  refine jP ?_
  refine jA 16 HT.out ?_
  refine jA 17 HT.out ?_
  refine jN 18 fun K' hK => ?_
  go_simp
  have H1 : Hid (T ((w1.drew).setCell (α gl (p * 21 + 3)) (ι G.cs.t))) := κ ⟨ω _ _ (t0), ω _ _ (t1), ω _ _ (t2), ω _ _ (t3)⟩
  refine hK.out _ _ H1.out ?_
  clear hK K'
  refine jP ?_
  refine jA 19 H1.out ?_
  refine jA 20 H1.out ?_
  refine jN 21 fun K' hK => ?_
  go_simp
  have HL : Hid (T ((((w1.drew).setCell (α gl (p * 21 + 3)) (ι G.cs.t)).setCell (α gl (p * 21 + 19)) (ι c)).setCell (α gl (p * 21 + 20)) (ι d))) := κ ⟨ω _ _ (ω _ _ (ω _ _ (t0))), ω _ _ (ω _ _ (ω _ _ (t1))), ω _ _ (ω _ _ (ω _ _ (t2))), ω _ _ (ω _ _ (ω _ _ (t3)))⟩
  refine hK.out _ _ HL.out ?_
  clear hK K'
  refine jP ?_
  refine Δ ?_
  clear CT HT
  go_wp2_with fail
  exact bodyPost_ret (v := .tuple #[]) (by simp [results, Tryz.results54, go_sem]) rfl (end_steps F0.out HG1.out hgl (by rw [← HN.out]; exact hp) hA'.out rfl)
end Gma
namespace Gbe
open Gma
abbrev opV (m : M) (sw : Bool) (sx ex : Int) : Array Value := #[.int .i64 m.k, .int .i64 m.a, .int .i64 m.s, .bool m.x, .int .i64 m.p, .int .i64 m.q, .int .i64 m.n, .int .i64 m.t, .int .i64 m.i, .int .i64 m.y, .int .i64 m.z, .int .i64 m.v, .bool sw, .int .i64 sx, .int .i64 ex]
theorem exec_ld {P : Program} {w : World} {o : Oper} {a : Act} {p : Operand} {t : TypeId} {q v : Value} (hop : o.op = Op.load t p) (hp : a.eval p = q) (hr : (Instr.loadAt t q).run P w = .ok v w) : (execOp a.eval o).run P w = .ok (.value v) w := by
  unfold execOp
  simp only [hop, hp, Sem.run_bind, Sem.run_pure, Result.andThen_ok, hr]
theorem ld_op {w : World} {g : Nat} {te : TypeId} {m : M} {sw : Bool} {sx ex : Int} (h : Blk w g te (opV m sw sx ex)) : (Instr.loadAt 115 (.pointer (some ⟨g, 0, none⟩))).run Tryz.prog w = .ok (.agg (opV m sw sx ex)) w := by
  have e : (loadCellsFrom ⟨g, 0, none⟩ 0 15 #[]).run Tryz.prog w = .ok (opV m sw sx ex) w := by
    have e1 : opV m sw sx ex = (opV m sw sx ex).toList.toArray := rfl
    rw [e1]
    refine run_ld _ _ _ 15 rfl fun i v hi => ?_
    have ha : (⟨g, 0, none⟩ : Addr).add i = ⟨g, i, none⟩ := by unfold Addr.add; split <;> simp_all
    rw [ha, h.cell]
    simpa using hi
  simp only [Instr.loadAt, Instr.sureAddr, Sem.run_bind, Sem.run_pure, Result.andThen, loadVar, loadCells, Tryz.isAgg115, Tryz.sizeOf115, if_true, e]
theorem log_info : (Tryz.prog.info? 123).map (fun i => (i.zero, i.size, i.bytes)) = some (some (.agg (hv he0).toArray), 21, 168) := by kernel_rfl
def MadeB (base : Nat) (ρ : Nat → Nat) (g0 : Nat) (w : World) (v : Value) (G' : Gp) (e : Ending) (w' : World) : Prop := e = .returned v ∧ ∃ ρ' q', Gt base ρ' w' g0 q' G' ∧ Fs (fun c => c = 1 ∨ c = 5) ρ w ρ' w'
theorem begin_fin {base : Nat} {ρ : Nat → Nat} {w w1 w3 : World} {g0 gn cap n : Nat} {q : Gq} {G G' : Gp} {E : He} {o : Obj} (F0 : Fs (fun c => c = 1 ∨ c = 5) ρ w ρ w1) (h : Gt base ρ w1 g0 q G) (hn : n = G.log.length) (ho : w3.ownsRow 0 123 21 (.slice (some ⟨gn, 0, none⟩) (n + 1) cap) (n + 1) (hrow G.log ++ hv E)) (hg : (w1.drew.alloc o).grownBy w3 (Value.slice q.Al n q.cl).ownBlock) (hat : (Value.slice q.Al n q.cl).ownBlock = some gn ∨ gn = (w1.drew.alloc o).heap.size) (hlt : gn < w3.heap.size) (hG : G' = { G with log := G.log ++ [E] }) : MadeB base ρ g0 w (.int .i64 G.log.length) G' (.returned (.int .i64 n)) (w3.setCell ⟨g0, 10, none⟩ (.slice (some ⟨gn, 0, none⟩) (n + 1) cap)) := by
  subst hn
  subst hG
  have f1 : Fs (fun _ => False) ρ w1 ρ (w1.drew.alloc o) := (Fs.drewed (C := fun _ => False)).trans (Fs.alloc o)
  have h2 := Gt.fs h f1 (fun k hk => h.new k (by simp at hk; have : w1.drew.heap.size = w1.heap.size := rfl; omega)) (fun _ _ h => h)
  rw [← hrow_snoc] at ho
  obtain ⟨ρ', a, b⟩ := Gt.loggrow h2 E ho hg hat hlt
  exact ⟨rfl, ρ', _, a, F0.trans ((f1.mono fun _ h => h.elim).trans b)⟩
theorem begin_any (base : Nat) (ρ : Nat → Nat) (q : Gq) (g0 : Nat) (who : Int) (m : M) (sw : Bool) (sx ex : Int) (G : Gp) (w : World) (HG : Hid (Gt base ρ w g0 q G)) (hV : Vs G) (hl : G.log.length ≤ 1000000) :
    Calls Tryz.prog 47 #[pv g0, .int .i64 who, .agg (opV m sw sx ex)] w (MadeB base ρ g0 w (.int .i64 G.log.length) (beginG G who m sw sx ex)) := by
  have hwl := hV.wl
  have hhl := hV.hl
  obtain ⟨i0, hi, hz0, hz1, hz2⟩ := info_parts log_info
  have F0 : Hid (Fs (fun c => c = 1 ∨ c = 5) ρ w ρ (w.alloc (.cells (opV m sw sx ex) 115))) := κ (Fs.alloc _)
  have HG1 : Hid (Gt base ρ (w.alloc (.cells (opV m sw sx ex) 115)) g0 q G) := κ (Gt.fs HG.out (Fs.alloc (C := fun _ => False) _) (fun k hk => HG.out.new k (by simp at hk; omega)) (fun _ _ h => h))
  have K1 : Blk (w.alloc (.cells (opV m sw sx ex) 115)) w.heap.size 115 (opV m sw sx ex) := Blk.fresh _ _ _
  go_enter Tryz.func47, Tryz.ntmps47
  go_upto_region 1 with fail
  unfold pv
  obtain ⟨gb, hgb⟩ : ∃ g, g = w.heap.size := ⟨_, rfl⟩
  simp only [← hgb] at K1 ⊢
  have z5 : Hid (ρ gb = 0) := κ (HG.out.new _ (Nat.le_of_eq hgb.symm))
  clear hgb
  generalize w.alloc (.cells (opV m sw sx ex) 115) = w1 at F0 HG1 K1 ⊢
  have t1 := Gt.c10 HG1.out
  have t0 := Gt.c7 HG1.out
  have ow : Hid (w1.ownsRow 0 123 21 (.slice q.Al G.log.length q.cl) G.log.length (hrow G.log)) := κ HG1.out.log.1
  obtain ⟨n, hn⟩ : ∃ n, n = G.log.length := ⟨_, rfl⟩
  rw [← hn] at t1 hl ow
  have HN := κ hn
  clear hn
  let E : He := ⟨who, G.cs.t, 0, 0, m, sw, sx, ex, 0, 0⟩
  have one : ∀ u ∈ Hpa.hv E, u.oneCell' = true := by intro u hu; simp only [Hpa.hv, mvs, List.cons_append, List.nil_append, List.mem_cons, List.not_mem_nil, or_false] at hu; rcases hu with rfl | rfl | rfl | rfl | rfl | rfl | rfl | rfl | rfl | rfl | rfl | rfl | rfl | rfl | rfl | rfl | rfl | rfl | rfl | rfl | rfl <;> rfl
  let T : World → Prop := fun w' => w'.cell? (α g0 7) = some (.pointer (some (α q.gc 0))) ∧ w'.cell? (α g0 10) = some (.slice q.Al n q.cl) ∧ Blk w' gb 115 (opV m sw sx ex)
  have HT : Hid (T w1.drew) := κ ⟨t0, t1, K1⟩
  have CT := Cn.time_any q.gc q.gw q.gh G.cs w1.drew (κ ⟨HG1.out.cs.c, HG1.out.cs.cw, HG1.out.cs.ch, HG1.out.cs.n1, HG1.out.cs.n2, HG1.out.cs.n3⟩) (by omega) (by omega)
  refine Ω T [17] ?_
  refine jA 0 HT.out ?_
  refine jA 1 HT.out ?_
  refine jA 2 HT.out ?_
  refine jA 3 HT.out ?_
  refine jB 4 HT.out ?_
  refine jA 5 HT.out ?_
  refine jA 6 HT.out ?_
  refine jA 7 HT.out ?_
  refine jA 8 HT.out ?_
  refine jB 9 HT.out ?_
  refine iLd (i := 11) ⟨trivial⟩ HT.out (v := .agg (opV m sw sx ex)) (fun w' hS => exec_ld rfl rfl (ld_op hS.2.2)) ?_
  refine jP ?_
  refine jN 10 fun K' hK => ?_
  go_simp
  refine CT.mono ?_
  rintro e w9 ⟨rfl, rfl⟩
  refine hK.out _ _ HT.out ?_
  clear hK K'
  refine jP ?_
  refine jA 12 HT.out ?_
  refine jN 13 fun K' hK => ?_
  go_simp
  have H13 : Hid (T (w1.drew.alloc (.cells (hv E).toArray 123))) := κ ⟨ce (Fs.alloc (C := (· = 2)) _) t0 HG1.out.o0 (by decide), ce (Fs.alloc (C := (· = 2)) _) t1 HG1.out.o0 (by decide), Blk.alloc K1 _⟩
  refine hK.out _ _ H13.out ?_
  clear hK K'
  refine jP ?_
  refine jN 14 fun K' hK => ?_
  refine step_append_lies (w1.drew.alloc (.cells (hv E).toArray 123)) rfl _ _ 58 rfl 0 123 i0 (.agg (hv he0).toArray) 21 168 Tryz.underlying58 hi hz0 hz1 hz2 rfl (by decide) (.slice q.Al n q.cl) n (hrow G.log) rfl (World.ownsRow.alloc ow.out _) ⟨w1.heap.size, 0, none⟩ 1 1 (hv E) rfl rfl (one_cells (w := w1.drew) rfl) one (by decide) (by simp only [maxLen]; omega) (by omega) (Nat.zero_le _) _ rfl ?_
  intro gn cap w3 ho hg hat hlt
  have e14 : Fs (· = 5) ρ (w1.drew.alloc (.cells (hv E).toArray 123)) (if (Value.slice q.Al n q.cl).ownBlock = some gn then ρ else put ρ gn 5) w3 := Fs.grown hg (fun b hb => HG1.out.log.2 b (by rw [← HN.out]; exact hb)) (grow_own hat) (fun N _ h => grow_cap (by decide) N h)
  have b14 : Blk w3 g0 99 (gqV q G) := e14.blk (Blk.alloc HG1.out.blk _) (by rw [HG1.out.o0]; decide)
  have s14 : w3.cell? (α g0 10) = some (.slice q.Al n q.cl) := by rw [HN.out]; exact b14.cell 10
  have z14 := b14.thaw 10
  have ho := κ ho
  have hg := κ hg
  have hat := κ hat
  have H14 : Hid (T w3) := κ ⟨ce e14 H13.out.1 HG1.out.o0 (by decide), ce e14 H13.out.2.1 HG1.out.o0 (by decide), e14.blk H13.out.2.2 (by rw [z5.out]; decide)⟩
  refine hK.out _ _ H14.out ?_
  clear hK K'
  refine jP ?_
  refine jA 15 H14.out ?_
  refine jA 16 H14.out ?_
  refine jV 17 fun K' hK => ?_
  go_simp
  refine hK.out _ _ ?_
  clear hK K'
  refine jP ?_
  refine Δ ?_
  clear CT H13 H14 HT
  go_wp2_with fail
  go_ret
  exact begin_fin F0.out HG1.out HN.out ho.out hg.out hat.out hlt rfl
end Gbe
namespace Gth
def Ot (t : TypeId) (w w' : World) : Prop := ∀ k te cs, te ≠ t → Blk w k te cs → Blk w' k te cs
section
variable {C : Nat → Prop} {ρ ρ' : Nat → Nat} {w w' w'' : World} {g0 g j n c : Nat} {r : Aq} {a : Ap} {p : Pu} {t : TypeId}
theorem Ot.trans (h : Ot t w w') (k : Ot t w' w'') : Ot t w w'' := fun i te cs hne hb => k i te cs hne (h i te cs hne hb)
theorem Ot.below (h : Below w.heap.size w w') : Ot t w w' := fun _ _ _ _ hk => hk.below' h
theorem Ot.set {cs : Array Value} (h : Blk w g t cs) (i : Nat) (u : Value) : Ot t w (w.setCell ⟨g, i, none⟩ u) := fun k te xs hne hk => blk_far hk (fun e => by
  subst e
  have := h.symm.trans hk
  injection this with this
  injection this with _ this
  exact hne this.symm) u
theorem OwR.ot {e : TypeId} {size : Nat} {v : Value} {xs : List Value} (h : OwR ρ w j e size v n xs) (o : Ot t w w') (f : Fs C ρ w ρ' w') (hne : e ≠ t) : OwR ρ' w' j e size v n xs := by
  obtain ⟨⟨h0, h1⟩, h2⟩ := h
  rcases h1 with h1 | ⟨b, cap, cur, hv, hb, hg, hr⟩
  · exact ⟨⟨h0, .inl h1⟩, by rw [h1.1]; intro b hb; cases hb⟩
  · refine ⟨⟨h0, .inr ⟨b, cap, cur, hv, hb, o b e cur hne hg, hr⟩⟩, fun k hk => ?_⟩
    have hl : b < w.heap.size := (Array.getElem?_eq_some_iff.1 hg).1
    rw [hv] at hk
    injection hk with hk
    subst hk
    exact f.keep hl (h2 b (by rw [hv]; rfl))
theorem Tod.ot {A : Option Addr} {vs : List Value} (h : Tod ρ w j A n c vs) (o : Ot t w w') (f : Fs C ρ w ρ' w') (hne : 126 ≠ t) : Tod ρ' w' j A n c vs := by
  obtain ⟨h0, h | ⟨b, i, cs, hA, hb, hs, hn, ho, hk⟩⟩ := h
  · exact ⟨h0, .inl h⟩
  · exact ⟨h0, .inr ⟨b, i, cs, hA, o b _ cs hne hb, hs, hn, f.keep hb.lt ho, hk⟩⟩
theorem Pua.ot (h : Pua ρ w j r p) (o : Ot t w w') (f : Fs C ρ w ρ' w') (h0 : ¬ C 0) (h1 : 198 ≠ t) (h2 : 102 ≠ t) (h3 : 2 ≠ t) : Pua ρ' w' j r p := by
  intro gp hg
  obtain ⟨k1, k2, k3, k4⟩ := h gp hg
  refine ⟨o _ _ _ h1 k1, f.keep k1.lt k2, k3.fs f h0, ?_⟩
  split
  · rename_i hf; rw [if_pos hf] at k4; exact ⟨OwR.ot k4.1 o f h2, OwR.ot k4.2 o f h3⟩
  · rename_i hf; rw [if_neg hf] at k4; exact ⟨k4.1.fs f h0, k4.2.fs f h0⟩
theorem Ac.set (h : Ac ρ w g0 g r a) (i : Nat) (u : Value) (a' : Ap) (ha : acV g0 r a' = (acV g0 r a).setIfInBounds i u) (ht : a'.todo = a.todo) (hp : a'.pu = a.pu) : Ac ρ (w.setCell ⟨g, i, none⟩ u) g0 g r a' ∧ Fs (· = g + 8) ρ w ρ (w.setCell ⟨g, i, none⟩ u) := by
  have f : Fs (· = g + 8) ρ w ρ (w.setCell ⟨g, i, none⟩ u) := Fs.set _ _ _ _ _ _ h.own
  have o : Ot 118 w (w.setCell ⟨g, i, none⟩ u) := Ot.set h.blk i u
  exact ⟨⟨by rw [ha]; exact blk_set h.blk i u, h.own, by rw [ht]; exact Tod.ot h.tod o f (by decide), by rw [ht]; exact h.acc.mono fun x v k => k.fs f (by omega), by rw [hp]; exact Pua.ot h.pu o f (by omega) (by decide) (by decide) (by decide)⟩, f⟩
end
theorem acc_one {ρ : Nat → Nat} {w : World} {g0 g : Nat} {gp : Option Nat} {x : Acc} {v : Value} (h : IsAcc ρ w g0 g gp x v) : v.oneCell' = true := by
  cases x with
  | one x =>
    cases x with
    | take l => obtain ⟨_, _, rfl, _⟩ := h; rfl
    | free l => obtain ⟨_, _, rfl, _⟩ := h; rfl
    | store l x => obtain ⟨_, _, _, rfl, _⟩ := h; rfl
    | load l s => obtain ⟨_, _, _, _, rfl, _⟩ := h; rfl
  | aft x d => obtain ⟨_, _, _, _, rfl, _⟩ := h; rfl
theorem are_one {ρ : Nat → Nat} {w : World} {g0 g : Nat} {gp : Option Nat} {l : List Acc} {us : List Value} (h : Are (IsAcc ρ w g0 g gp) l us) : ∀ u ∈ us, u.oneCell' = true := by
  induction h with
  | nil => simp
  | cons h _ ih => intro u hu; exact (List.mem_cons.1 hu).elim (fun e => e ▸ acc_one h) (ih u)
def MadeT (base : Nat) (ρ : Nat → Nat) (q : Gq) (g0 g : Nat) (gp : Option Nat) (w : World) (v : Value) (G : Gp) (a' : Ap) (e : Ending) (w' : World) : Prop := e = .returned v ∧ ∃ ρ' r', Fs (· = g + 8) ρ w ρ' w' ∧ Gt base ρ' w' g0 q G ∧ Ac ρ' w' g0 g r' a' ∧ r'.gp = gp
theorem madeT_grew {base : Nat} {ρ : Nat → Nat} {q : Gq} {g0 g m : Nat} {G : Gp} {r : Aq} {a : Ap} {w w1 : World} {v : Value} {us : List Value} {l : List Acc} (HG : Gt base ρ w g0 q G) (ha : Ac ρ w g0 g r a) (hl : Are (IsAcc ρ w g0 g r.gp) l us) (hm : us.length = m) (h : Grew ρ w (g + 8) a.todo.length m r.vs us v w1) : MadeT base ρ q g0 g r.gp w (.tuple #[]) G (thenA a l) (.returned (.tuple #[])) (w1.setCell ⟨g, 3, none⟩ v) := by
  obtain ⟨A', c', ρ', rfl, ht, hf, hn, ho⟩ := h
  have hll : l.length = m := hl.len.symm.trans hm
  have hb : Blk w1 g 118 (acV g0 r a) := ho _ _ _ (by decide) ha.blk
  have f1 : Fs (· = g + 8) ρ' w1 ρ' (w1.setCell ⟨g, 3, none⟩ (.slice A' (a.todo.length + m) c')) := Fs.set _ _ _ _ _ _ (hf.keep ha.blk.lt ha.own)
  have o1 : Ot 118 w1 (w1.setCell ⟨g, 3, none⟩ (.slice A' (a.todo.length + m) c')) := Ot.set hb 3 _
  have ff := hf.trans f1
  have hz : ∀ k, (w1.setCell ⟨g, 3, none⟩ (.slice A' (a.todo.length + m) c')).heap.size ≤ k → ρ' k = 0 := fun k hk => hn k (by simpa [World.setCell] using hk)
  refine ⟨rfl, ρ', { r with A := A', c := c', vs := r.vs ++ us }, ff, Gt.fs HG ff hz (fun i hi => by omega), ⟨?_, hf.keep ha.blk.lt ha.own, ?_, ?_, ?_⟩, rfl⟩
  · have := blk_set hb 3 (.slice A' (a.todo.length + m) c')
    unfold acV at this ⊢
    simpa [thenA, hll] using this
  · have := Tod.ot ht o1 f1 (by decide)
    simpa [thenA, hll] using this
  · have h1 : Are (IsAcc ρ' (w1.setCell ⟨g, 3, none⟩ (.slice A' (a.todo.length + m) c')) g0 g r.gp) (a.todo ++ l) (r.vs ++ us) := (ha.acc.app hl).mono fun x v k => k.fs ff (by omega)
    exact h1
  · have h1 : Pua ρ' w1 (g + 8) r a.pu := Pua.ot (t := 126) ha.pu (fun k te cs hne hk => ho k te cs hne hk) hf (by omega) (by decide) (by decide) (by decide)
    exact Pua.ot h1 o1 f1 (by omega) (by decide) (by decide) (by decide)
theorem then_any (base : Nat) (ρ : Nat → Nat) (q : Gq) (r : Aq) (g0 g gb m : Nat) (G : Gp) (a : Ap) (us : List Value) (l : List Acc) (w : World) (HG : Hid (Gt base ρ w g0 q G)) (ha : Hid (Ac ρ w g0 g r a)) (hb : Hid (Blk w gb 126 us.toArray)) (hl : Hid (Are (IsAcc ρ w g0 g r.gp) l us)) (hm : Hid (us.length = m)) (h0 : 0 < m) (hmax : a.todo.length + m ≤ 1000000) :
    Calls Tryz.prog 100 #[pv g, .slice (some ⟨gb, 0, none⟩) m m] w (MadeT base ρ q g0 g r.gp w (.tuple #[]) G (thenA a l)) := by
  obtain ⟨i0, hi, hz0, hz1, hz2⟩ := info_parts acc_info
  have t3 := Ac.c3 ha.out
  have z3 := Ac.z ha.out 3
  obtain ⟨n, hn⟩ : ∃ n, n = a.todo.length := ⟨_, rfl⟩
  rw [← hn] at t3 hmax
  have HN := κ hn
  have HT : Hid (Tod ρ w (g + 8) r.A n r.c r.vs) := κ (by rw [hn]; exact ha.out.tod)
  have HZ : Hid (∀ k, w.heap.size ≤ k → ρ k = 0) := κ HG.out.new
  have H1 : Hid (∀ u ∈ us, u.oneCell' = true) := κ (are_one hl.out)
  clear hn
  unfold pv
  go_enter Tryz.func100, Tryz.ntmps100
  go_wp2_with (at_builtin; refine wp_todo HT HZ hb hm h0 H1 hmax (by have := ha.out.blk.lt; omega) (.tmp 8) (.tmp 9) 116 rfl rfl i0 Tryz.underlying116 hi hz0 hz1 hz2 rfl rfl (fun A1 c1 w1 hg => ?_); have c3 : w1.cell? (α g 3) = some (.slice r.A n r.c) := by {obtain ⟨A', c', ρ', _, _, _, _, ho⟩ := hg.out; rw [HN.out]; exact (ho g 118 _ (by decide) ha.out.blk).cell 3}; have y3 : w1.frozen? (α g 3) = false := by {obtain ⟨A', c', ρ', _, _, _, _, ho⟩ := hg.out; exact (ho g 118 _ (by decide) ha.out.blk).thaw 3})
  exact bodyPost_ret (v := .tuple #[]) (by simp [results, Tryz.results100, go_sem]) rfl (madeT_grew HG.out ha.out hl.out hm.out (by rw [← HN.out]; exact hg.out))
end Gth
end Go.Proofs.YtaeddnjjeholgaaGreat
