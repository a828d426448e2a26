/- Texts side by side. -/
import Derived.Test.YtaeddnjjeholgaaGreatUgbd
set_option linter.unusedVariables false
set_option linter.unusedSimpArgs false
set_option maxRecDepth 100000
set_option maxHeartbeats 16000000
namespace Go.Proofs.YtaeddnjjeholgaaGreat
open Kap Lat Lax Go.ChangeShapes Go.WideShapes Go.ChangeAt Go.RowKit Go.Lib Mem Cel Bkp Bks Wpl Hpa Gpl Mdp Cfg Gow Gac Gat Gup Gex Gma Gth Gmz Gsn Gsm
namespace Gx4
open Gma (wpL_two)
open Gx1 (offC)
section
variable {base : Nat} {ρ : Nat → Nat} {w : World} {g0 : Nat} {q : Gq} {G : Gp}
structure Bat (ρ : Nat → Nat) (w : World) (q : Gq) (i gb : Nat) (x : Bx) : Prop where
  A : q.Ab = some ⟨gb, 0, none⟩
  o : ρ gb = 3
  e : x = gX q.xs i
  c0 : w.cell? ⟨gb, i * 4, none⟩ = some (.int .i64 x.b.sh)
  c1 : w.cell? ⟨gb, i * 4 + 1, none⟩ = some (.int .i64 x.b.ca)
  c2 : w.cell? ⟨gb, i * 4 + 2, none⟩ = some (.slice x.A x.b.rows.length x.c)
  c3 : w.cell? ⟨gb, i * 4 + 3, none⟩ = some (.slice x.C x.b.op.length x.d)
  z : ∀ j, w.frozen? ⟨gb, j, none⟩ = false
  k : Bk0 ρ w x
theorem book_at (h : Gt base ρ w g0 q G) {i : Nat} (hi : i < G.bs.length) : ∃ gb x, Bat ρ w q i gb x ∧ x.b = gB G.bs i := by
  have hl : q.xs.length = G.bs.length := by have := congrArg List.length h.xb; simpa using this
  have hxb : (gX q.xs i).b = gB G.bs i := by
    have h1 : i < q.xs.length := by omega
    rw [← h.xb]
    simp [gX, gB, List.getD, h1]
  rcases h.row.1.2 with ⟨_, h0⟩ | ⟨gb, cap, cur, hv, hb, hg, hr⟩
  · omega
  · injection hv with hA
    have row := h.row.1
    rw [hA] at row
    have cc : ∀ j, j < 4 → w.cell? ⟨gb, i * 4 + j, none⟩ = (bxV (gX q.xs i))[j]? := fun j hj => (World.ownsRow.cellAt row _ (by omega)).trans (bxs_get _ _ _ (by omega) hj)
    exact ⟨gb, gX q.xs i, ⟨hA, h.row.2 gb (by rw [hA]; rfl), rfl, cc 0 (by decide), cc 1 (by decide), cc 2 (by decide), cc 3 (by decide), fun j => World.ownsRow.frozenAt row j, h.bk i (by omega)⟩, hxb⟩
def put4 (w : World) (gb i : Nat) (y : Bx) : World := (((w.setCell ⟨gb, i * 4, none⟩ (.int .i64 y.b.sh)).setCell ⟨gb, i * 4 + 1, none⟩ (.int .i64 y.b.ca)).setCell ⟨gb, i * 4 + 2, none⟩ (.slice y.A y.b.rows.length y.c)).setCell ⟨gb, i * 4 + 3, none⟩ (.slice y.C y.b.op.length y.d)
theorem book_put (h : Gt base ρ w g0 q G) {i gb : Nat} {x y : Bx} (hb : Bat ρ w q i gb x) (hi : i < G.bs.length) (hy : Bk0 ρ w y) : Gt base ρ (put4 w gb i y) g0 { q with xs := q.xs.set i y } { G with bs := G.bs.set i y.b } ∧ Fs (· = 3) ρ w ρ (put4 w gb i y) := by
  have hl : q.xs.length = G.bs.length := by have := congrArg List.length h.xb; simpa using this
  have row := h.row.1
  rw [hb.A] at row
  obtain ⟨s1, _⟩ := World.ownsRow.stored row (i * 4) (.int .i64 y.b.sh)
  obtain ⟨s2, _⟩ := World.ownsRow.stored s1 (i * 4 + 1) (.int .i64 y.b.ca)
  obtain ⟨s3, _⟩ := World.ownsRow.stored s2 (i * 4 + 2) (.slice y.A y.b.rows.length y.c)
  obtain ⟨s4, _⟩ := World.ownsRow.stored s3 (i * 4 + 3) (.slice y.C y.b.op.length y.d)
  have f : Fs (· = 3) ρ w ρ (put4 w gb i y) := (((Fs.set (· = 3) ρ w gb _ _ hb.o).trans (Fs.set (· = 3) ρ _ gb _ _ hb.o)).trans (Fs.set (· = 3) ρ _ gb _ _ hb.o)).trans (Fs.set (· = 3) ρ _ gb _ _ hb.o)
  refine ⟨Gt.book h f (fun k hk => h.new k (by simpa [put4, World.setCell] using hk)) (by omega) hy ?_, f⟩
  rw [bxs_set _ _ _ (by omega), hb.A]
  exact s4
end
def comeF (G : Gp) (pu : Pu) (o : Od) (x s ep : Int) (off : Bool) : Int × Int × Gp × Pu :=
  if off = true then (2, 0, G, pu)
  else if lookF G.ra G.ta (gB G.bs s.toNat) o ≠ 0 then (lookF G.ra G.ta (gB G.bs s.toNat) o, 0, G, pu)
  else if (Cpl.resF pu.cl pu.cu pu.leaf x).1 ≠ 0 then ((Cpl.resF pu.cl pu.cu pu.leaf x).1, 0, G, pu)
  else (0, (gB G.bs s.toNat).sh + G.sh * (gB G.bs s.toNat).ca, { G with bs := G.bs.set s.toNat (Bks.addF G.sh G.wi (gB G.bs s.toNat) o ep) }, { pu with cu := Cpl.resU pu.cl pu.cu pu.leaf x, fr := false })
def MadeCm (base : Nat) (ρ : Nat → Nat) (g0 g : Nat) (gp : Option Nat) (a : Ap) (w : World) (c : Int × Int × Gp × Pu) (e : Ending) (w' : World) : Prop := e = .returned (.agg #[.int .i64 c.1, .int .i64 c.2.1]) ∧ ∃ ρ' q' r', Fs (fun c => c = 3 ∨ c = g + 8) ρ w ρ' w' ∧ Gt base ρ' w' g0 q' c.2.2.1 ∧ Ac ρ' w' g0 g r' { a with pu := c.2.2.2 } ∧ r'.gp = gp
theorem come_no {G : Gp} {pu : Pu} {o : Od} {x ep : Int} {sn : Nat} {off : Bool} {k : Int} (hk : k = if off = true then 2 else lookF G.ra G.ta (gB G.bs sn) o) (h : ¬ k = 0) : comeF G pu o x sn ep off = (k, 0, G, pu) := by
  unfold comeF
  rw [Int.toNat_natCast]
  by_cases ho : off = true
  · rw [if_pos ho] at hk ⊢; rw [hk]
  · rw [if_neg ho] at hk ⊢; subst hk; rw [if_pos h]
theorem come_no2 {G : Gp} {pu : Pu} {o : Od} {x ep : Int} {sn : Nat} {off : Bool} {k : Int} {rf : Int × Int} (hk : k = if off = true then 2 else lookF G.ra G.ta (gB G.bs sn) o) (h : k = 0) (hr : rf = Cpl.resF pu.cl pu.cu pu.leaf x) (hr0 : ¬ rf.1 = 0) : comeF G pu o x sn ep off = (rf.1, 0, G, pu) := by
  subst hr
  unfold comeF
  rw [Int.toNat_natCast]
  by_cases ho : off = true
  · rw [if_pos ho] at hk; omega
  · rw [if_neg ho] at hk ⊢; rw [← hk, h, if_neg (fun h => h rfl), if_pos hr0]
theorem come_yes {G : Gp} {pu : Pu} {o : Od} {x ep : Int} {sn : Nat} {off : Bool} {k : Int} {rf : Int × Int} (hk : k = if off = true then 2 else lookF G.ra G.ta (gB G.bs sn) o) (h : k = 0) (hr : rf = Cpl.resF pu.cl pu.cu pu.leaf x) (hr0 : rf.1 = 0) : comeF G pu o x sn ep off = (0, (gB G.bs sn).sh + G.sh * (gB G.bs sn).ca, { G with bs := G.bs.set sn (Bks.addF G.sh G.wi (gB G.bs sn) o ep) }, { pu with cu := Cpl.resU pu.cl pu.cu pu.leaf x, fr := false }) := by
  subst hr
  unfold comeF
  rw [Int.toNat_natCast]
  by_cases ho : off = true
  · rw [if_pos ho] at hk; omega
  · rw [if_neg ho] at hk ⊢; rw [← hk, h, if_neg (fun h => h rfl), if_neg (fun h => h hr0)]
theorem look_row {ra ta : Int} {b : Bk} {o : Od} (h : lookF ra ta b o = 0) : inQ b.rows.length o.a = true := by
  unfold lookF at h
  split at h
  · assumption
  · cases h
section
variable {base : Nat} {ρ : Nat → Nat} {w : World} {g0 g : Nat} {q : Gq} {G : Gp} {r : Aq} {a : Ap}
theorem ans_st (hG : Gt base ρ w g0 q G) (hA : Ac ρ w g0 g r a) {bz : Nat} {u0 u1 : Value} (k : Blk w bz 66 #[u0, u1]) (ho : ρ bz = g + 8) (c d : Int) :
    Gt base ρ ((w.setCell ⟨bz, 0, none⟩ (.int .i64 c)).setCell ⟨bz, 1, none⟩ (.int .i64 d)) g0 q G ∧ Ac ρ ((w.setCell ⟨bz, 0, none⟩ (.int .i64 c)).setCell ⟨bz, 1, none⟩ (.int .i64 d)) g0 g r a ∧ Fs (· = g + 8) ρ w ρ ((w.setCell ⟨bz, 0, none⟩ (.int .i64 c)).setCell ⟨bz, 1, none⟩ (.int .i64 d)) ∧ Blk ((w.setCell ⟨bz, 0, none⟩ (.int .i64 c)).setCell ⟨bz, 1, none⟩ (.int .i64 d)) bz 66 #[.int .i64 c, .int .i64 d] := by
  have f1 : Fs (· = g + 8) ρ w ρ (w.setCell ⟨bz, 0, none⟩ (.int .i64 c)) := Fs.set _ _ _ _ _ _ ho
  have f2 : Fs (· = g + 8) ρ (w.setCell ⟨bz, 0, none⟩ (.int .i64 c)) ρ ((w.setCell ⟨bz, 0, none⟩ (.int .i64 c)).setCell ⟨bz, 1, none⟩ (.int .i64 d)) := Fs.set _ _ _ _ _ _ ho
  have k1 := blk_set k 0 (.int .i64 c)
  have k2 := blk_set k1 1 (.int .i64 d)
  have o := Ot.trans (Ot.set k 0 (.int .i64 c)) (Ot.set k1 1 (.int .i64 d))
  have f := f1.trans f2
  exact ⟨Gt.fs hG f (fun j hj => hG.new j (by simpa [World.setCell] using hj)) (fun i hi => by omega), ⟨o _ _ _ (by decide) hA.blk, hA.own, Tod.ot hA.tod o f (by decide), hA.acc.mono fun x v k => k.fs f (by omega), Pua.ot hA.pu o f (by omega) (by decide) (by decide) (by decide)⟩, f, by simpa using k2⟩
theorem pu_st (hG : Gt base ρ w g0 q G) (hA : Ac ρ w g0 g r a) {gp : Nat} (hp : r.gp = some gp) {An Au : Option Addr} {cn cu' : Nat} {cu : List Int} (hn : Ro0 ρ w An (nds a.pu.cl)) (hu : Ro0 ρ w Au (ints cu)) (hl : cu.length = a.pu.cu.length) :
    ∃ r', Gt base ρ ((w.setCell ⟨gp, 2, none⟩ (.slice An a.pu.cl.length cn)).setCell ⟨gp, 3, none⟩ (.slice Au cu.length cu')) g0 q G ∧ Ac ρ ((w.setCell ⟨gp, 2, none⟩ (.slice An a.pu.cl.length cn)).setCell ⟨gp, 3, none⟩ (.slice Au cu.length cu')) g0 g r' { a with pu := { a.pu with cu := cu, fr := false } } ∧ r'.gp = some gp ∧ Fs (· = g + 8) ρ w ρ ((w.setCell ⟨gp, 2, none⟩ (.slice An a.pu.cl.length cn)).setCell ⟨gp, 3, none⟩ (.slice Au cu.length cu')) ∧ Ot 198 w ((w.setCell ⟨gp, 2, none⟩ (.slice An a.pu.cl.length cn)).setCell ⟨gp, 3, none⟩ (.slice Au cu.length cu')) := by
  obtain ⟨k1, k2, k3, k4⟩ := hA.pu gp hp
  have f1 : Fs (· = g + 8) ρ w ρ (w.setCell ⟨gp, 2, none⟩ (.slice An a.pu.cl.length cn)) := Fs.set _ _ _ _ _ _ k2
  have f2 : Fs (· = g + 8) ρ (w.setCell ⟨gp, 2, none⟩ (.slice An a.pu.cl.length cn)) ρ ((w.setCell ⟨gp, 2, none⟩ (.slice An a.pu.cl.length cn)).setCell ⟨gp, 3, none⟩ (.slice Au cu.length cu')) := Fs.set _ _ _ _ _ _ k2
  have b1 := blk_set k1 2 (.slice An a.pu.cl.length cn)
  have b2 := blk_set b1 3 (.slice Au cu.length cu')
  have o := Ot.trans (Ot.set k1 2 (.slice An a.pu.cl.length cn)) (Ot.set b1 3 (.slice Au cu.length cu'))
  have f := f1.trans f2
  refine ⟨{ r with An := An, cn := cn, Au := Au, cu := cu' }, Gt.fs hG f (fun j hj => hG.new j (by simpa [World.setCell] using hj)) (fun i hi => by omega), ⟨o _ _ _ (by decide) hA.blk, hA.own, Tod.ot hA.tod o f (by decide), hA.acc.mono fun x v k => k.fs f (by omega), fun gp' hg' => ?_⟩, hp, f, o⟩
  have e : gp' = gp := by have := hp.symm.trans hg'; injection this with this; exact this.symm
  subst e
  refine ⟨by unfold puV at b2 ⊢; simpa using b2, k2, k3.fs f (by omega), ?_⟩
  simp only [Bool.false_eq_true, if_false]
  exact ⟨hn.fs f (by omega), hu.fs f (by omega)⟩
end
theorem Bat.fs {C : Nat → Prop} {ρ ρ' : Nat → Nat} {w w' : World} {q : Gq} {i gb : Nat} {x : Bx} (h : Bat ρ w q i gb x) (f : Fs C ρ w ρ' w') (h3 : ¬ C 3) (h0 : ¬ C 0) : Bat ρ' w' q i gb x := by
  have hl := World.block_lt_of_cell? w _ h.c0
  have e : ∀ j, w'.cell? ⟨gb, j, none⟩ = w.cell? ⟨gb, j, none⟩ := fun j => World.cell?_of_block (f.block gb hl (by rw [h.o]; exact h3))
  exact ⟨h.A, f.keep hl h.o, h.e, (e _).trans h.c0, (e _).trans h.c1, (e _).trans h.c2, (e _).trans h.c3, fun j => (World.frozen?_of_block (a := ⟨gb, j, none⟩) (f.block gb hl (by rw [h.o]; exact h3))).trans (h.z j), h.k.fs f h0⟩
theorem Bat.ext {ρ : Nat → Nat} {w w' : World} {q : Gq} {i gb : Nat} {x : Bx} (h : Bat ρ w q i gb x) (hb : Below w.heap.size w w') : Bat ρ w' q i gb x := Bat.fs h (fx hb) id id
theorem pu_rd {ρ : Nat → Nat} {w : World} {g0 g : Nat} {r : Aq} {a : Ap} (h : Ac ρ w g0 g r a) {gp : Nat} (hp : r.gp = some gp) : w.cell? ⟨gp, 0, none⟩ = some (.int .i64 a.pu.leaf) ∧ w.cell? ⟨gp, 2, none⟩ = some (.slice r.An a.pu.cl.length r.cn) ∧ w.cell? ⟨gp, 3, none⟩ = some (.slice r.Au a.pu.cu.length r.cu) ∧ Nds w w.heap.size r.An a.pu.cl ∧ Ris w w.heap.size r.Au a.pu.cu ∧ w.frozen? ⟨gp, 2, none⟩ = false ∧ (∀ u, (w.setCell ⟨gp, 2, none⟩ u).frozen? ⟨gp, 3, none⟩ = false) ∧ ∀ u, (w.setCell ⟨gp, 2, none⟩ u).cell? ⟨gp, 3, none⟩ = some (.slice r.Au a.pu.cu.length r.cu) := by
  obtain ⟨k1, _, _, k4⟩ := h.pu gp hp
  have k4' : Nds w w.heap.size r.An a.pu.cl ∧ Ris w w.heap.size r.Au a.pu.cu := by
    split at k4
    · exact ⟨Rd.of_own k4.1.1, Rd.of_own k4.2.1⟩
    · exact ⟨k4.1.1, k4.2.1⟩
  exact ⟨k1.cell 0, k1.cell 2, k1.cell 3, k4'.1, k4'.2, k1.thaw 2, fun u => (blk_set k1 2 u).thaw 3, fun u => by simpa [puV] using (blk_set k1 2 u).cell 3⟩
theorem ans_cells {w : World} {bz : Nat} {u0 u1 : Value} (k : Blk w bz 66 #[u0, u1]) : w.cell? ⟨bz, 0, none⟩ = some u0 ∧ w.frozen? ⟨bz, 0, none⟩ = false ∧ (∀ v, (w.setCell ⟨bz, 0, none⟩ v).cell? ⟨bz, 1, none⟩ = some u1) ∧ (∀ v, (w.setCell ⟨bz, 0, none⟩ v).frozen? ⟨bz, 1, none⟩ = false) ∧ (∀ v u, ((w.setCell ⟨bz, 0, none⟩ v).setCell ⟨bz, 1, none⟩ u).cell? ⟨bz, 0, none⟩ = some v) ∧ ∀ v u, ((w.setCell ⟨bz, 0, none⟩ v).setCell ⟨bz, 1, none⟩ u).cell? ⟨bz, 1, none⟩ = some u :=
  ⟨k.cell 0, k.thaw 0, fun v => by simpa using (blk_set k 0 v).cell 1, fun v => (blk_set k 0 v).thaw 1, fun v u => by simpa using (blk_set (blk_set k 0 v) 1 u).cell 0, fun v u => by simpa using (blk_set (blk_set k 0 v) 1 u).cell 1⟩
theorem cutS {ρ : Nat → Nat} {w1 w : World} {b5 : Nat} {u0 u1 : Value} {A4 A5 : Option Addr} {c4 c5 : Nat} {l : List (Int × Int)} {u : List Int} (hz : ∀ k, w1.heap.size ≤ k → ρ k = 0) (hb : Below w1.heap.size w1 w) (h5 : Blk w b5 194 #[u0, u1]) (l5 : w1.heap.size ≤ b5) (hn : Nds w w.heap.size A4 l) (hu : Ris w w.heap.size A5 u) (f4 : ∀ b, A4 = some b → w1.heap.size ≤ b.block) (f5 : ∀ b, A5 = some b → w1.heap.size ≤ b.block) (n4 : ∀ b, A4 = some b → b.block ≠ b5) (n5 : ∀ b, A5 = some b → b.block ≠ b5) {k : Int} :
    ∃ (b13 : Nat) (X4 X5 : Option Addr) (d4 d5 : Nat), Value.int .i64 k = .int .i64 k ∧ Value.pointer (some ⟨b5, 0, none⟩) = .pointer (some ⟨b13, 0, none⟩) ∧ Hid (Below w1.heap.size w1 ((w.setCell ⟨b5, 0, none⟩ (.slice A4 l.length c4)).setCell ⟨b5, 1, none⟩ (.slice A5 u.length c5))) ∧ Hid (B1 ρ ((w.setCell ⟨b5, 0, none⟩ (.slice A4 l.length c4)).setCell ⟨b5, 1, none⟩ (.slice A5 u.length c5)) b13 194 #[.slice X4 l.length d4, .slice X5 u.length d5]) ∧ Hid (Nds ((w.setCell ⟨b5, 0, none⟩ (.slice A4 l.length c4)).setCell ⟨b5, 1, none⟩ (.slice A5 u.length c5)) ((w.setCell ⟨b5, 0, none⟩ (.slice A4 l.length c4)).setCell ⟨b5, 1, none⟩ (.slice A5 u.length c5)).heap.size X4 l) ∧ Hid (Ris ((w.setCell ⟨b5, 0, none⟩ (.slice A4 l.length c4)).setCell ⟨b5, 1, none⟩ (.slice A5 u.length c5)) ((w.setCell ⟨b5, 0, none⟩ (.slice A4 l.length c4)).setCell ⟨b5, 1, none⟩ (.slice A5 u.length c5)).heap.size X5 u) ∧ Hid (∀ b, X4 = some b → w1.heap.size ≤ b.block) ∧ Hid (∀ b, X5 = some b → w1.heap.size ≤ b.block) := by
  have k2 := blk_set (blk_set h5 0 (.slice A4 l.length c4)) 1 (.slice A5 u.length c5)
  exact ⟨b5, A4, A5, c4, c5, rfl, rfl, κ ((hb.setCell (p := ⟨b5, 0, none⟩) l5 _).setCell (p := ⟨b5, 1, none⟩) l5 _), κ ⟨by simpa using k2, hz _ l5⟩, κ (Rd.keep' (Rd.keep' hn (Nat.lt_succ_self _) n4 _) (Nat.lt_succ_self _) n4 _), κ (Rd.keep' (Rd.keep' hu (Nat.lt_succ_self _) n5 _) (Nat.lt_succ_self _) n5 _), κ f4, κ f5⟩
theorem blk_lt {w : World} {A : Option Addr} {xs : List Value} (h : Rd w w.heap.size A xs) : ∀ b, A = some b → b.block < w.heap.size ∨ xs = [] := by
  intro b hb
  rcases h with h | ⟨c, o, hA, hl, _⟩
  · exact .inr h
  · rw [hA] at hb; injection hb with hb; subst hb; exact .inl hl
theorem ne_of {A : Option Addr} {xs : List Value} {n : Nat} (h0 : xs ≠ []) (h : ∀ b, A = some b → b.block < n ∨ xs = []) : ∀ b, A = some b → b.block ≠ n := fun b hb => by
  rcases h b hb with h | h
  · omega
  · exact absurd h h0
theorem st_cells {w : World} {b : Nat} {u0 u1 : Value} (k : Blk w b 194 #[u0, u1]) : w.cell? ⟨b, 0, none⟩ = some u0 ∧ w.frozen? ⟨b, 0, none⟩ = false ∧ (∀ v, (w.setCell ⟨b, 0, none⟩ v).cell? ⟨b, 1, none⟩ = some u1) ∧ ∀ v, (w.setCell ⟨b, 0, none⟩ v).frozen? ⟨b, 1, none⟩ = false :=
  ⟨k.cell 0, k.thaw 0, fun v => by simpa using (blk_set k 0 v).cell 1, fun v => (blk_set k 0 v).thaw 1⟩
theorem bat_cells {ρ : Nat → Nat} {w : World} {q : Gq} {i gb : Nat} {x : Bx} (h : Bat ρ w q i gb x) : w.cell? ⟨gb, i * 4, none⟩ = some (.int .i64 x.b.sh) ∧ w.frozen? ⟨gb, i * 4, none⟩ = false ∧ (∀ u, (w.setCell ⟨gb, i * 4, none⟩ u).cell? ⟨gb, i * 4 + 1, none⟩ = some (.int .i64 x.b.ca)) ∧ (∀ u v, ((w.setCell ⟨gb, i * 4, none⟩ u).setCell ⟨gb, i * 4 + 1, none⟩ v).cell? ⟨gb, i * 4 + 2, none⟩ = some (.slice x.A x.b.rows.length x.c)) ∧ (∀ u v t, (((w.setCell ⟨gb, i * 4, none⟩ u).setCell ⟨gb, i * 4 + 1, none⟩ v).setCell ⟨gb, i * 4 + 2, none⟩ t).cell? ⟨gb, i * 4 + 3, none⟩ = some (.slice x.C x.b.op.length x.d)) ∧ (∀ u, (w.setCell ⟨gb, i * 4, none⟩ u).frozen? ⟨gb, i * 4 + 1, none⟩ = false) ∧ (∀ u v, ((w.setCell ⟨gb, i * 4, none⟩ u).setCell ⟨gb, i * 4 + 1, none⟩ v).frozen? ⟨gb, i * 4 + 2, none⟩ = false ∧ ∀ t, (((w.setCell ⟨gb, i * 4, none⟩ u).setCell ⟨gb, i * 4 + 1, none⟩ v).setCell ⟨gb, i * 4 + 2, none⟩ t).frozen? ⟨gb, i * 4 + 3, none⟩ = false) :=
  ⟨h.c0, h.z _, fun u => ω _ _ h.c1, fun u v => ω _ _ (ω _ _ h.c2), fun u v t => ω _ _ (ω _ _ (ω _ _ h.c3)), fun u => φ _ _ (h.z _), fun u v => ⟨φ _ _ (φ _ _ (h.z _)), fun t => φ _ _ (φ _ _ (φ _ _ (h.z _)))⟩⟩
theorem resU_len (l : List (Int × Int)) (u : List Int) (n x : Int) : (Cpl.resU l u n x).length = u.length := by
  unfold Cpl.resU
  split
  · exact Cpl.addF_len _ _ _
  · rfl
theorem come_any (base : Nat) (ρ : Nat → Nat) (q : Gq) (r : Aq) (g0 g gp i sn wn : Nat) (os : Int) (ox : Bool) (op oq on ot x' ep : Int) (off : Bool) (G : Gp) (a : Ap) (w : World) (HG : Hid (Gt base ρ w g0 q G)) (ha : Hid (Ac ρ w g0 g r a)) (hgp : r.gp = some gp) (hsn : shaF G.sh G.ac.length (i : Int) = sn) (hsb : sn < G.bs.length) (hbl : G.bs.length ≤ 1000) (HFEW : Hid (FewB (gB G.bs sn))) (hwi : G.wi = wn) (hwn : wn ≤ 1000) (HGS : Hid (Res.GoodSt a.pu.cl a.pu.cu)) (hGL1 : Hid (nds a.pu.cl ≠ [])) (hGL2 : Hid (ints (Cpl.resU a.pu.cl a.pu.cu a.pu.leaf x') ≠ [])) (hle : inI a.pu.leaf) (hx : inI x') (s0 : 1 ≤ G.sh) (s1 : G.sh ≤ 1000) (hal : G.ac.length ≤ 1000) :
    Calls Tryz.prog 114 #[pv g0, .agg #[.int .i64 (i : Int), .int .i64 os, .bool ox, .int .i64 op, .int .i64 oq, .int .i64 on, .int .i64 ot], .int .i64 x', pv gp, .agg #[.int .i64 ep, .bool off]] w (MadeCm base ρ g0 g r.gp a w (comeF G a.pu ⟨(i : Int), os, ox, op, oq, on, ot⟩ x' sn ep off)) := by
  obtain ⟨gb, x, HB0, hxb⟩ := book_at HG.out hsb
  have HB0 := κ HB0
  have HXB := κ hxb
  obtain ⟨kk, hkk⟩ : ∃ y, y = offC off (lookF G.ra G.ta x.b ⟨(i : Int), os, ox, op, oq, on, ot⟩) := ⟨_, rfl⟩
  have HKK := κ hkk
  clear hkk
  rw [← hxb] at HFEW
  have hrl := HFEW.out.rl
  have hrl2 := HFEW.out.ol
  have LOOK := fun (W : World) (hm : Bm W x.A x.C x.rl x.b) => Bki.look_any G.sh G.wi G.ra G.ta q.A q.B q.C G.nd.length G.ac.length G.sy.length q.c q.d q.f x.A x.C x.b.rows.length x.b.op.length x.c x.d x.rl x.b ⟨(i : Int), os, ox, op, oq, on, ot⟩ W x.b.sh x.b.ca (κ ⟨rfl, rfl⟩) (κ rfl) (κ rfl) (κ hm) HFEW
  have LOOK := κ LOOK
  have SHARD := fun (W : World) => Rul3.shard_any G.sh G.wi G.ra G.ta q.A q.B q.C q.c q.d q.f G.nd G.ac G.sy (i : Int) W (by unfold inI; omega) (by omega)
  rw [hsn] at SHARD
  have SHARD := κ SHARD
  have ADD := fun (W : World) (hm : Bm W x.A x.C x.rl x.b) (hir : i < x.b.rows.length) => Bka.add_any G.sh G.ra G.ta wn q.A q.B q.C G.nd.length G.ac.length G.sy.length q.c q.d q.f x.b.sh x.b.ca x.A x.C x.b.rows.length x.b.op.length x.c x.d x.rl x.b i os op oq on ot ox ep W (κ ⟨rfl, rfl⟩) (κ rfl) (κ rfl) (κ hm) HFEW s0 s1 hwn hir
  rw [← hwi] at ADD
  have ADD := κ ADD
  have HGP := κ hgp
  clear hgp hsn hxb hwi
  obtain ⟨nb, hnb⟩ : ∃ n, n = G.bs.length := ⟨_, rfl⟩
  have HNB := κ hnb
  have hsb' : sn < nb := by rw [hnb]; exact hsb
  have hnb' : nb ≤ 1000 := by rw [hnb]; exact hbl
  clear hnb
  have z1 := HG.out.new
  have z2 := new_alloc (o := .cells #[.int .i64 (i : Int), .int .i64 os, .bool ox, .int .i64 op, .int .i64 oq, .int .i64 on, .int .i64 ot] 51) z1
  have hb2 : Below w.heap.size w ((w.alloc (.cells #[.int .i64 (i : Int), .int .i64 os, .bool ox, .int .i64 op, .int .i64 oq, .int .i64 on, .int .i64 ot] 51)).alloc (.cells #[.int .i64 ep, .bool off] 178)) := γ w (.cells #[.int .i64 (i : Int), .int .i64 os, .bool ox, .int .i64 op, .int .i64 oq, .int .i64 on, .int .i64 ot] 51) (.cells #[.int .i64 ep, .bool off] 178)
  have O2 : B1 ρ ((w.alloc (.cells #[.int .i64 (i : Int), .int .i64 os, .bool ox, .int .i64 op, .int .i64 oq, .int .i64 on, .int .i64 ot] 51)).alloc (.cells #[.int .i64 ep, .bool off] 178)) w.heap.size 51 #[.int .i64 (i : Int), .int .i64 os, .bool ox, .int .i64 op, .int .i64 oq, .int .i64 on, .int .i64 ot] := B1.ext (B1.mk z1 rfl) (β _ _)
  have N2 : B1 ρ ((w.alloc (.cells #[.int .i64 (i : Int), .int .i64 os, .bool ox, .int .i64 op, .int .i64 oq, .int .i64 on, .int .i64 ot] 51)).alloc (.cells #[.int .i64 ep, .bool off] 178)) (w.heap.size + 1) 178 #[.int .i64 ep, .bool off] := B1.mk z2 (by simp)
  have G2 := Gt.ext HG.out hb2
  have A2 := Ac.ext ha.out hb2
  have B2 := Bat.ext HB0.out hb2
  have f3 : Fs No ρ ((w.alloc (.cells #[.int .i64 (i : Int), .int .i64 os, .bool ox, .int .i64 op, .int .i64 oq, .int .i64 on, .int .i64 ot] 51)).alloc (.cells #[.int .i64 ep, .bool off] 178)) (put ρ (((w.alloc (.cells #[.int .i64 (i : Int), .int .i64 os, .bool ox, .int .i64 op, .int .i64 oq, .int .i64 on, .int .i64 ot] 51)).alloc (.cells #[.int .i64 ep, .bool off] 178))).heap.size (g + 8)) (((w.alloc (.cells #[.int .i64 (i : Int), .int .i64 os, .bool ox, .int .i64 op, .int .i64 oq, .int .i64 on, .int .i64 ot] 51)).alloc (.cells #[.int .i64 ep, .bool off] 178)).alloc (.cells #[.int .i64 0, .int .i64 0] 66)) := Fs.put (β _ _) (Nat.le_refl _) _ (by have := A2.blk.lt; simp only [World.size_alloc] at this ⊢; omega)
  have z3 : ∀ k, (((w.alloc (.cells #[.int .i64 (i : Int), .int .i64 os, .bool ox, .int .i64 op, .int .i64 oq, .int .i64 on, .int .i64 ot] 51)).alloc (.cells #[.int .i64 ep, .bool off] 178)).alloc (.cells #[.int .i64 0, .int .i64 0] 66)).heap.size ≤ k → put ρ (((w.alloc (.cells #[.int .i64 (i : Int), .int .i64 os, .bool ox, .int .i64 op, .int .i64 oq, .int .i64 on, .int .i64 ot] 51)).alloc (.cells #[.int .i64 ep, .bool off] 178))).heap.size (g + 8) k = 0 := fun k hk => by simp only [World.size_alloc] at hk; rw [put_ne (by simp only [World.size_alloc]; omega)]; exact G2.new k (by simp only [World.size_alloc]; omega)
  have G3 := κ (Gt.fs G2 f3 z3 (fun _ _ h => h))
  have A3 := κ (Ac.fs A2 f3 id id)
  have O3 := κ (B1.fs O2 f3 id)
  have N3 := κ (B1.fs N2 f3 id)
  have B3 := κ (Bat.fs B2 f3 id id)
  have R3 : Hid (Blk (((w.alloc (.cells #[.int .i64 (i : Int), .int .i64 os, .bool ox, .int .i64 op, .int .i64 oq, .int .i64 on, .int .i64 ot] 51)).alloc (.cells #[.int .i64 ep, .bool off] 178)).alloc (.cells #[.int .i64 0, .int .i64 0] 66)) (((w.alloc (.cells #[.int .i64 (i : Int), .int .i64 os, .bool ox, .int .i64 op, .int .i64 oq, .int .i64 on, .int .i64 ot] 51)).alloc (.cells #[.int .i64 ep, .bool off] 178))).heap.size 66 #[.int .i64 0, .int .i64 0]) := κ (Blk.fresh _ _ _)
  have RO : Hid (put ρ (((w.alloc (.cells #[.int .i64 (i : Int), .int .i64 os, .bool ox, .int .i64 op, .int .i64 oq, .int .i64 on, .int .i64 ot] 51)).alloc (.cells #[.int .i64 ep, .bool off] 178))).heap.size (g + 8) (((w.alloc (.cells #[.int .i64 (i : Int), .int .i64 os, .bool ox, .int .i64 op, .int .i64 oq, .int .i64 on, .int .i64 ot] 51)).alloc (.cells #[.int .i64 ep, .bool off] 178))).heap.size = g + 8) := κ put_at
  have F3 : Hid (Fs (fun c => c = 3 ∨ c = g + 8) ρ w (put ρ (((w.alloc (.cells #[.int .i64 (i : Int), .int .i64 os, .bool ox, .int .i64 op, .int .i64 oq, .int .i64 on, .int .i64 ot] 51)).alloc (.cells #[.int .i64 ep, .bool off] 178))).heap.size (g + 8)) (((w.alloc (.cells #[.int .i64 (i : Int), .int .i64 os, .bool ox, .int .i64 op, .int .i64 oq, .int .i64 on, .int .i64 ot] 51)).alloc (.cells #[.int .i64 ep, .bool off] 178)).alloc (.cells #[.int .i64 0, .int .i64 0] 66))) := κ ((Fs.quiet hb2).trans (f3.mono fun _ h => h.elim))
  have hz3 : (((w.alloc (.cells #[.int .i64 (i : Int), .int .i64 os, .bool ox, .int .i64 op, .int .i64 oq, .int .i64 on, .int .i64 ot] 51)).alloc (.cells #[.int .i64 ep, .bool off] 178))).heap.size = w.heap.size + 1 + 1 := by simp only [World.size_alloc]
  obtain ⟨ρ3, hρ3⟩ : ∃ y, y = put ρ (((w.alloc (.cells #[.int .i64 (i : Int), .int .i64 os, .bool ox, .int .i64 op, .int .i64 oq, .int .i64 on, .int .i64 ot] 51)).alloc (.cells #[.int .i64 ep, .bool off] 178))).heap.size (g + 8) := ⟨_, rfl⟩
  rw [← hρ3] at G3 A3 O3 N3 B3 RO F3
  rw [hz3] at R3 RO
  clear hρ3 hz3 f3 z1 z2 z3 hb2 O2 N2 G2 A2 B2
  go_enter Tryz.func114, Tryz.ntmps114
  go_upto_region 1 with fail
  obtain ⟨bz, hbz⟩ : ∃ y, y = w.heap.size + 1 + 1 := ⟨_, rfl⟩
  obtain ⟨bn, hbn⟩ : ∃ y, y = w.heap.size + 1 := ⟨_, rfl⟩
  obtain ⟨bo, hbo⟩ : ∃ y, y = w.heap.size := ⟨_, rfl⟩
  simp only [← hbz] at R3 RO ⊢
  simp only [← hbn] at N3 ⊢
  simp only [← hbo] at O3 ⊢
  clear hbz hbn hbo
  generalize (((w.alloc (.cells #[.int .i64 (i : Int), .int .i64 os, .bool ox, .int .i64 op, .int .i64 oq, .int .i64 on, .int .i64 ot] 51)).alloc (.cells #[.int .i64 ep, .bool off] 178)).alloc (.cells #[.int .i64 0, .int .i64 0] 66)) = w3 at G3 A3 O3 N3 B3 R3 F3 ⊢
  have b1 : Below w3.heap.size w3 w3.drew := (Below.refl _ _).drew
  have H2 := κ (Gt.ext G3.out b1)
  have H3 := κ (Ac.ext A3.out b1)
  have H4 := κ (B1.ext O3.out b1)
  have H5 := κ (B1.ext N3.out b1)
  have H6 := κ (Bat.ext B3.out b1)
  have H7 := κ (Blk.below' R3.out b1)
  have F8 := κ (F3.out.trans (Fs.quiet b1))
  let T9 : World → Prop := fun w' => w'.cell? ⟨g0, 8, none⟩ = some (.slice (some ⟨gb, 0, none⟩) nb q.cb) ∧ w'.cell? ⟨g0, 0, none⟩ = some (.int .i64 G.sh) ∧ w'.cell? ⟨g0, 1, none⟩ = some (.int .i64 G.wi) ∧ w'.cell? ⟨g0, 2, none⟩ = some (.int .i64 G.ra) ∧ w'.cell? ⟨g0, 3, none⟩ = some (.int .i64 G.ta) ∧ w'.cell? ⟨g0, 4, none⟩ = some (.slice q.A G.nd.length q.c) ∧ w'.cell? ⟨g0, 5, none⟩ = some (.slice q.B G.ac.length q.d) ∧ w'.cell? ⟨g0, 6, none⟩ = some (.slice q.C G.sy.length q.f) ∧ w'.cell? ⟨bo, 0, none⟩ = some (.int .i64 (i : Int))
  have P10 : Hid (T9 w3.drew) := κ ⟨(by rw [HNB.out, ← H6.out.A]; exact (Gt.c8 H2.out :)), (Gt.c0 H2.out :), (Gt.c1 H2.out :), (Gt.c2 H2.out :), (Gt.c3 H2.out :), (Gt.c4 H2.out :), (Gt.c5 H2.out :), (Gt.c6 H2.out :), (H4.out.1.cell 0)⟩
  refine Ω T9 [] ?_
  generalize w3.drew = wd11 at H2 H3 H4 H5 H6 H7 F8 P10 ⊢
  refine jA 0 P10.out ?_
  refine jA 1 P10.out ?_
  refine jA 2 P10.out ?_
  refine jB 3 P10.out ?_
  refine jA 4 P10.out ?_
  refine jA 5 P10.out ?_
  refine jA 6 P10.out ?_
  refine jB 7 P10.out ?_
  refine jA 8 P10.out ?_
  refine jB 9 P10.out ?_
  refine jN 10 fun K' hK => ?_
  go_simp
  refine (SHARD.out wd11).mono ?_
  rintro e w12 ⟨rfl, b13⟩
  have H14 := κ (Gt.ext H2.out b13)
  have H15 := κ (Ac.ext H3.out b13)
  have H16 := κ (B1.ext H4.out b13)
  have H17 := κ (B1.ext H5.out b13)
  have H18 := κ (Bat.ext H6.out b13)
  have H19 := κ (Blk.below' H7.out b13)
  have F20 := κ (F8.out.trans (Fs.quiet b13))
  have P21 : Hid (T9 w12) := κ ⟨(by rw [HNB.out, ← H18.out.A]; exact (Gt.c8 H14.out :)), (Gt.c0 H14.out :), (Gt.c1 H14.out :), (Gt.c2 H14.out :), (Gt.c3 H14.out :), (Gt.c4 H14.out :), (Gt.c5 H14.out :), (Gt.c6 H14.out :), (H16.out.1.cell 0)⟩
  refine hK.out _ _ P21.out ?_
  clear hK K'
  refine jP ?_
  refine jA 11 P21.out ?_
  refine jA 12 P21.out ?_
  refine Δ ?_
  go_upto_region 2 with fail
  have b22 : Below w12.heap.size w12 w12.drew := (Below.refl _ _).drew
  have H23 := κ (Gt.ext H14.out b22)
  have H24 := κ (Ac.ext H15.out b22)
  have H25 := κ (B1.ext H16.out b22)
  have H26 := κ (B1.ext H17.out b22)
  have H27 := κ (Bat.ext H18.out b22)
  have H28 := κ (Blk.below' H19.out b22)
  have F29 := κ (F20.out.trans (Fs.quiet b22))
  let T30 : World → Prop := fun w' => w'.cell? ⟨g0, 0, none⟩ = some (.int .i64 G.sh) ∧ w'.cell? ⟨g0, 1, none⟩ = some (.int .i64 G.wi) ∧ w'.cell? ⟨g0, 2, none⟩ = some (.int .i64 G.ra) ∧ w'.cell? ⟨g0, 3, none⟩ = some (.int .i64 G.ta) ∧ w'.cell? ⟨g0, 4, none⟩ = some (.slice q.A G.nd.length q.c) ∧ w'.cell? ⟨g0, 5, none⟩ = some (.slice q.B G.ac.length q.d) ∧ w'.cell? ⟨g0, 6, none⟩ = some (.slice q.C G.sy.length q.f) ∧ w'.cell? ⟨gb, sn * 4, none⟩ = some (.int .i64 x.b.sh) ∧ w'.cell? ⟨gb, sn * 4 + 1, none⟩ = some (.int .i64 x.b.ca) ∧ w'.cell? ⟨gb, sn * 4 + 2, none⟩ = some (.slice x.A x.b.rows.length x.c) ∧ w'.cell? ⟨gb, sn * 4 + 3, none⟩ = some (.slice x.C x.b.op.length x.d) ∧ w'.cell? ⟨bo, 0, none⟩ = some (.int .i64 (i : Int)) ∧ w'.cell? ⟨bo, 1, none⟩ = some (.int .i64 os) ∧ w'.cell? ⟨bo, 2, none⟩ = some (.bool ox) ∧ w'.cell? ⟨bo, 3, none⟩ = some (.int .i64 op) ∧ w'.cell? ⟨bo, 4, none⟩ = some (.int .i64 oq) ∧ w'.cell? ⟨bo, 5, none⟩ = some (.int .i64 on) ∧ w'.cell? ⟨bo, 6, none⟩ = some (.int .i64 ot) ∧ w'.cell? ⟨bn, 0, none⟩ = some (.int .i64 ep) ∧ w'.cell? ⟨bn, 1, none⟩ = some (.bool off)
  have P31 : Hid (T30 w12.drew) := κ ⟨(Gt.c0 H23.out :), (Gt.c1 H23.out :), (Gt.c2 H23.out :), (Gt.c3 H23.out :), (Gt.c4 H23.out :), (Gt.c5 H23.out :), (Gt.c6 H23.out :), H27.out.c0, H27.out.c1, H27.out.c2, H27.out.c3, (H25.out.1.cell 0), (H25.out.1.cell 1), (H25.out.1.cell 2), (H25.out.1.cell 3), (H25.out.1.cell 4), (H25.out.1.cell 5), (H25.out.1.cell 6), (H26.out.1.cell 0), (H26.out.1.cell 1)⟩
  refine Ω T30 [] ?_
  generalize w12.drew = wd32 at H23 H24 H25 H26 H27 H28 F29 P31 ⊢
  refine jB 0 P31.out ?_
  refine jA 1 P31.out ?_
  refine jA 2 P31.out ?_
  refine jA 3 P31.out ?_
  refine jB 4 P31.out ?_
  refine jA 5 P31.out ?_
  refine jA 6 P31.out ?_
  refine jB 7 P31.out ?_
  refine jB 8 P31.out ?_
  refine jN 9 fun K' hK => ?_
  go_simp
  refine (LOOK.out wd32 H27.out.k.1).mono ?_
  rintro e w33 ⟨rfl, b34⟩
  have H35 := κ (Gt.ext H23.out b34)
  have H36 := κ (Ac.ext H24.out b34)
  have H37 := κ (B1.ext H25.out b34)
  have H38 := κ (B1.ext H26.out b34)
  have H39 := κ (Bat.ext H27.out b34)
  have H40 := κ (Blk.below' H28.out b34)
  have F41 := κ (F29.out.trans (Fs.quiet b34))
  have P42 : Hid (T30 w33) := κ ⟨(Gt.c0 H35.out :), (Gt.c1 H35.out :), (Gt.c2 H35.out :), (Gt.c3 H35.out :), (Gt.c4 H35.out :), (Gt.c5 H35.out :), (Gt.c6 H35.out :), H39.out.c0, H39.out.c1, H39.out.c2, H39.out.c3, (H37.out.1.cell 0), (H37.out.1.cell 1), (H37.out.1.cell 2), (H37.out.1.cell 3), (H37.out.1.cell 4), (H37.out.1.cell 5), (H37.out.1.cell 6), (H38.out.1.cell 0), (H38.out.1.cell 1)⟩
  refine hK.out _ _ P42.out ?_
  clear hK K'
  refine jP ?_
  refine jN 10 fun K' hK => ?_
  go_simp
  refine ((show Calls Tryz.prog 105 #[.agg #[.int .i64 ep, .bool off], .int .i64 (lookF G.ra G.ta x.b ⟨(i : Int), os, ox, op, oq, on, ot⟩)] w33 (MadeV (.int .i64 kk) w33) from by rw [HKK.out]; exact unlessOff_any ep (lookF G.ra G.ta x.b ⟨(i : Int), os, ox, op, oq, on, ot⟩) off w33)).mono ?_
  rintro e w43 ⟨rfl, b44⟩
  have H45 := κ (Gt.ext H35.out b44)
  have H46 := κ (Ac.ext H36.out b44)
  have H47 := κ (B1.ext H37.out b44)
  have H48 := κ (B1.ext H38.out b44)
  have H49 := κ (Bat.ext H39.out b44)
  have H50 := κ (Blk.below' H40.out b44)
  have F51 := κ (F41.out.trans (Fs.quiet b44))
  have P52 : Hid (T30 w43) := κ ⟨(Gt.c0 H45.out :), (Gt.c1 H45.out :), (Gt.c2 H45.out :), (Gt.c3 H45.out :), (Gt.c4 H45.out :), (Gt.c5 H45.out :), (Gt.c6 H45.out :), H49.out.c0, H49.out.c1, H49.out.c2, H49.out.c3, (H47.out.1.cell 0), (H47.out.1.cell 1), (H47.out.1.cell 2), (H47.out.1.cell 3), (H47.out.1.cell 4), (H47.out.1.cell 5), (H47.out.1.cell 6), (H48.out.1.cell 0), (H48.out.1.cell 1)⟩
  refine hK.out _ _ P52.out ?_
  clear hK K'
  refine jP ?_
  refine jA 11 P52.out ?_
  refine Δ ?_
  by_cases hk0 : kk = 0
  case neg =>
    have t0 : (kk == 0) = false := by simpa using hk0
    go_upto_region 4 with fail
    obtain ⟨y0, y1, y2, y3, y4, y5⟩ := ans_cells H50.out
    have AS := κ (ans_st H45.out H46.out H50.out RO.out (kk) (0))
    go_wp2_with fail
    exact bodyPost_ret (v := .agg #[.int .i64 (kk), .int .i64 (0)]) (by simp [results, Tryz.results114, go_sem, y4, y5]) rfl (by rw [come_no (k := kk) (by rw [HKK.out, HXB.out]; rfl) hk0]; exact ⟨rfl, ρ3, _, _, F51.out.trans (AS.out.2.2.1.mono fun _ h => .inr h), AS.out.1, AS.out.2.1, rfl⟩)
  case pos =>
    have t0 : (kk == 0) = true := by simpa using hk0
    have hrow := look_row (show lookF G.ra G.ta x.b ⟨(i : Int), os, ox, op, oq, on, ot⟩ = 0 from by have h9 := HKK.out; rw [hk0] at h9; unfold offC at h9; exact (by by_cases ho : off = true; (rw [if_pos ho] at h9; omega); (rw [if_neg ho] at h9; exact h9.symm)))
    have hir := (inQ_of hrow).2
    have hir : i < x.b.rows.length := by simpa using hir
    clear hrow
    obtain ⟨rf, hrf⟩ : ∃ y, y = Cpl.resF a.pu.cl a.pu.cu a.pu.leaf x' := ⟨_, rfl⟩
    have HRF := κ hrf
    have RES := fun (A A' : Option Addr) (c c' : Nat) (W : World) (h1 : Nds W W.heap.size A a.pu.cl) (h2 : Ris W W.heap.size A' a.pu.cu) => Rsf.reserve_fresh A A' c c' a.pu.cl a.pu.cu a.pu.leaf x' W (κ h1) (κ h2) HGS.out hle hx.1 hx.2
    rw [← hrf] at RES
    have RES := κ RES
    clear hrf
    go_upto_region 5 with fail
    obtain ⟨UU, hUU⟩ : ∃ y, y = Cpl.resU a.pu.cl a.pu.cu a.pu.leaf x' := ⟨_, rfl⟩
    rw [← hUU] at RES
    have HUU := κ hUU
    clear hUU
    go_cut [12, 13] (fun s12 s13 wx => ∃ (b13 : Nat) (A4 A5 : Option Addr) (c4 c5 : Nat), s12 = .int .i64 rf.1 ∧ s13 = .pointer (some ⟨b13, 0, none⟩) ∧ Hid (Below w43.heap.size w43 wx) ∧ Hid (B1 ρ3 wx b13 194 #[.slice A4 a.pu.cl.length c4, .slice A5 UU.length c5]) ∧ Hid (Nds wx wx.heap.size A4 a.pu.cl) ∧ Hid (Ris wx wx.heap.size A5 UU) ∧ Hid (∀ b, A4 = some b → w43.heap.size ≤ b.block) ∧ Hid (∀ b, A5 = some b → w43.heap.size ≤ b.block))
    case first =>
      have hb9 : Below w43.heap.size w43 w43.drew := (Below.refl _ _).drew
      have NW := H45.out.new
      have BB0 := κ hb9
      have AD := κ (Ac.ext H46.out hb9)
      have HWR : Hid (w43.heap.size = w43.drew.heap.size) := κ rfl
      obtain ⟨p0, p2, p3, pn, pu, -, -, -⟩ := pu_rd AD.out HGP.out
      have PN := κ pn
      have PU := κ pu
      clear pn pu hb9
      let TP : World → Prop := fun w' => w'.cell? ⟨gp, 0, none⟩ = some (.int .i64 a.pu.leaf) ∧ w'.cell? ⟨gp, 2, none⟩ = some (.slice r.An a.pu.cl.length r.cn) ∧ w'.cell? ⟨gp, 3, none⟩ = some (.slice r.Au a.pu.cu.length r.cu)
      have P0 : Hid (TP w43.drew) := κ ⟨p0, p2, p3⟩
      clear p0 p2 p3
      refine Ω TP [15] ?_
      generalize w43.drew = wd at P0 BB0 AD PN PU HWR ⊢
      refine jA 0 P0.out ?_
      refine jA 1 P0.out ?_
      refine jA 2 P0.out ?_
      refine jB 3 P0.out ?_
      refine jA 4 P0.out ?_
      refine jA 5 P0.out ?_
      refine jA 6 P0.out ?_
      refine jB 7 P0.out ?_
      refine jA 8 P0.out ?_
      refine wpL_two (m := 9) (n := 14) (by kernel_rfl) rfl rfl ?_ ?_
      · intro K' hK
        go_simp
        refine (RES.out _ _ _ _ wd PN.out PU.out).mono ?_
        rintro e w4 ⟨A4, c4, A5, c5, rfl, hn4, hu4, hb4, fa, fb⟩
        have AD4 := κ (Ac.ext AD.out hb4)
        obtain ⟨p0, p2, p3, -, -, -, -, -⟩ := pu_rd AD4.out HGP.out
        have P4 : Hid (TP w4) := κ ⟨p0, p2, p3⟩
        have BB4 := κ (Cel.below_step BB0.out hb4)
        have hn4 := κ hn4
        have hu4 := κ hu4
        clear p0 p2 p3
        have hb4 := κ hb4
        have fa := κ fa
        have fb := κ fb
        refine hK.out _ _ P4.out ?_
        clear hK K'
        refine jP ?_
        refine jA 10 P4.out ?_
        refine jA 11 P4.out ?_
        refine jA 12 P4.out ?_
        refine jA 13 P4.out ?_
        refine jN 14 fun K' hK => ?_
        go_simp
        have b5 := β w4 (.cells #[.slice none 0 0, .slice none 0 0] 194)
        have AD5 := κ (Ac.ext AD4.out b5)
        obtain ⟨p0, p2, p3, -, -, -, -, -⟩ := pu_rd AD5.out HGP.out
        have P5 : Hid (TP (w4.alloc (.cells #[.slice none 0 0, .slice none 0 0] 194))) := κ ⟨p0, p2, p3⟩
        have KS := κ (Blk.fresh w4 194 #[.slice none 0 0, .slice none 0 0])
        have N5 := κ (Rd.below' hn4.out b5 b5.size)
        have U5 := κ (Rd.below' hu4.out b5 b5.size)
        have BB5 := κ (Cel.below_step BB4.out b5)
        have l5 : Hid (wd.heap.size ≤ w4.heap.size) := κ hb4.out.size
        have n4 : Hid (∀ b, A4 = some b → b.block < w4.heap.size ∨ nds a.pu.cl = []) := κ (blk_lt hn4.out)
        have n5 : Hid (∀ b, A5 = some b → b.block < w4.heap.size ∨ ints UU = []) := κ (blk_lt hu4.out)
        obtain ⟨gs, hgs⟩ : ∃ y, y = w4.heap.size := ⟨_, rfl⟩
        simp only [← hgs] at KS l5 n4 n5 ⊢
        clear hgs p0 p2 p3 b5
        generalize w4.alloc (.cells #[.slice none 0 0, .slice none 0 0] 194) = w5 at AD5 P5 KS N5 U5 BB5 ⊢
        obtain ⟨y0, y1, y2, y3⟩ := st_cells KS.out
        refine hK.out _ _ P5.out ?_
        clear hK K'
        refine jP ?_
        refine jV 15 fun K' hK => ?_
        go_simp
        refine hK.out _ _ ?_
        clear hK K'
        refine jP ?_
        refine jZ 16 ?_
        refine jZ 17 ?_
        refine Δ ?_
        go_wp2_with fail
        go_meet
        exact cutS NW BB5.out KS.out (by rw [HWR.out]; exact l5.out) N5.out U5.out (by rw [HWR.out]; exact fa.out) (by rw [HWR.out]; exact fb.out) (fun b hb => ne_of hGL1.out n4.out b hb) (fun b hb => ne_of (by rw [HUU.out]; exact hGL2.out) n5.out b hb)
      · intro K' hK
        go_simp
        have b5 := β wd (.cells #[.slice none 0 0, .slice none 0 0] 194)
        have AD5 := κ (Ac.ext AD.out b5)
        obtain ⟨p0, p2, p3, pn, pu, -, -, -⟩ := pu_rd AD5.out HGP.out
        have P5 : Hid (TP (wd.alloc (.cells #[.slice none 0 0, .slice none 0 0] 194))) := κ ⟨p0, p2, p3⟩
        have PN5 := κ pn
        have PU5 := κ pu
        have KS := κ (Blk.fresh wd 194 #[.slice none 0 0, .slice none 0 0])
        have BB5 := κ (Cel.below_step BB0.out b5)
        have h9 : Hid ((wd.alloc (.cells #[.slice none 0 0, .slice none 0 0] 194)).heap.size = wd.heap.size + 1) := κ (World.size_alloc _ _)
        obtain ⟨gs, hgs⟩ : ∃ y, y = wd.heap.size := ⟨_, rfl⟩
        simp only [← hgs] at KS h9 ⊢
        have HGS' := κ hgs
        clear hgs p0 p2 p3 pn pu b5
        generalize wd.alloc (.cells #[.slice none 0 0, .slice none 0 0] 194) = w5 at AD5 P5 PN5 PU5 KS BB5 h9 ⊢
        refine hK.out _ _ P5.out ?_
        clear hK K'
        refine jP ?_
        refine jN 9 fun K' hK => ?_
        go_simp
        refine (RES.out _ _ _ _ w5 PN5.out PU5.out).mono ?_
        rintro e w4 ⟨A4, c4, A5, c5, rfl, hn4, hu4, hb4, fa, fb⟩
        have AD4 := κ (Ac.ext AD5.out hb4)
        obtain ⟨p0, p2, p3, -, -, -, -, -⟩ := pu_rd AD4.out HGP.out
        have P4 : Hid (TP w4) := κ ⟨p0, p2, p3⟩
        have BB4 := κ (Cel.below_step BB5.out hb4)
        have hn4 := κ hn4
        have hu4 := κ hu4
        clear p0 p2 p3
        have KS4 := κ (Blk.below' KS.out hb4)
        rw [h9.out] at fa fb
        have fa := κ fa
        have fb := κ fb
        obtain ⟨y0, y1, y2, y3⟩ := st_cells KS4.out
        refine hK.out _ _ P4.out ?_
        clear hK K' hb4
        refine jP ?_
        refine jA 10 P4.out ?_
        refine jA 11 P4.out ?_
        refine jA 12 P4.out ?_
        refine jA 13 P4.out ?_
        refine jV 15 fun K' hK => ?_
        go_simp
        refine hK.out _ _ ?_
        clear hK K'
        refine jP ?_
        refine jZ 16 ?_
        refine jZ 17 ?_
        refine Δ ?_
        go_wp2_with fail
        go_meet
        exact cutS NW BB4.out KS4.out (by rw [HWR.out, HGS'.out]; exact Nat.le_refl _) hn4.out hu4.out (fun b hb => by have := fa.out b hb; have := HWR.out; have := HGS'.out; omega) (fun b hb => by have := fb.out b hb; have := HWR.out; have := HGS'.out; omega) (fun b hb => by have := fa.out b hb; omega) (fun b hb => by have := fb.out b hb; omega)
    case rest =>
      obtain ⟨b13, A4, A5, c4, c5, rfl, rfl, hbx, KS, N4, U4, FA, FB⟩ := hcut
      rename World => w6
      have hbx' := hbx.out
      have NW := κ H45.out.new
      have H103 := κ (Gt.ext H45.out hbx')
      have H104 := κ (Ac.ext H46.out hbx')
      have H105 := κ (B1.ext H47.out hbx')
      have H106 := κ (B1.ext H48.out hbx')
      have H107 := κ (Bat.ext H49.out hbx')
      have H108 := κ (Blk.below' H50.out hbx')
      have F109 := κ (F51.out.trans (Fs.quiet hbx'))
      have Z4 : Hid (Ro0 ρ3 w6 A4 (nds a.pu.cl)) := κ ⟨N4.out, .inr fun b hb => NW.out _ (FA.out b hb)⟩
      have Z5 : Hid (Ro0 ρ3 w6 A5 (ints UU)) := κ ⟨U4.out, .inr fun b hb => NW.out _ (FB.out b hb)⟩
      clear N4 U4 FA FB NW hbx hbx'
      by_cases hr0 : rf.1 = 0
      case neg =>
        have t1 : (rf.1 == 0) = false := by simpa using hr0
        go_upto_region 7 with fail
        obtain ⟨y0, y1, y2, y3, y4, y5⟩ := ans_cells H108.out
        have AS := κ (ans_st H103.out H104.out H108.out RO.out (rf.1) (0))
        go_wp2_with fail
        exact bodyPost_ret (v := .agg #[.int .i64 (rf.1), .int .i64 (0)]) (by simp [results, Tryz.results114, go_sem, y4, y5]) rfl (by rw [come_no2 (k := kk) (by rw [HKK.out, HXB.out]; rfl) hk0 HRF.out hr0]; exact ⟨rfl, ρ3, _, _, F109.out.trans (AS.out.2.2.1.mono fun _ h => .inr h), AS.out.1, AS.out.2.1, rfl⟩)
      case pos =>
        have t1 : (rf.1 == 0) = true := by simpa using hr0
        go_upto_region 9 with fail
        have b110 : Below w6.heap.size w6 w6.drew := (Below.refl _ _).drew
        have H111 := κ (Gt.ext H103.out b110)
        have H112 := κ (Ac.ext H104.out b110)
        have H113 := κ (B1.ext H105.out b110)
        have H114 := κ (B1.ext H106.out b110)
        have H115 := κ (B1.ext KS.out b110)
        have H116 := κ (Bat.ext H107.out b110)
        have H117 := κ (Blk.below' H108.out b110)
        have Z118 := κ (Ro0.fs Z4.out (fx b110) id)
        have Z119 := κ (Ro0.fs Z5.out (fx b110) id)
        have F120 := κ (F109.out.trans (Fs.quiet b110))
        let T121 : World → Prop := fun w' => w'.cell? ⟨g0, 0, none⟩ = some (.int .i64 G.sh) ∧ w'.cell? ⟨g0, 1, none⟩ = some (.int .i64 G.wi) ∧ w'.cell? ⟨g0, 2, none⟩ = some (.int .i64 G.ra) ∧ w'.cell? ⟨g0, 3, none⟩ = some (.int .i64 G.ta) ∧ w'.cell? ⟨g0, 4, none⟩ = some (.slice q.A G.nd.length q.c) ∧ w'.cell? ⟨g0, 5, none⟩ = some (.slice q.B G.ac.length q.d) ∧ w'.cell? ⟨g0, 6, none⟩ = some (.slice q.C G.sy.length q.f) ∧ w'.cell? ⟨gb, sn * 4, none⟩ = some (.int .i64 x.b.sh) ∧ w'.cell? ⟨gb, sn * 4 + 1, none⟩ = some (.int .i64 x.b.ca) ∧ w'.cell? ⟨gb, sn * 4 + 2, none⟩ = some (.slice x.A x.b.rows.length x.c) ∧ w'.cell? ⟨gb, sn * 4 + 3, none⟩ = some (.slice x.C x.b.op.length x.d) ∧ w'.cell? ⟨bo, 0, none⟩ = some (.int .i64 (i : Int)) ∧ w'.cell? ⟨bo, 1, none⟩ = some (.int .i64 os) ∧ w'.cell? ⟨bo, 2, none⟩ = some (.bool ox) ∧ w'.cell? ⟨bo, 3, none⟩ = some (.int .i64 op) ∧ w'.cell? ⟨bo, 4, none⟩ = some (.int .i64 oq) ∧ w'.cell? ⟨bo, 5, none⟩ = some (.int .i64 on) ∧ w'.cell? ⟨bo, 6, none⟩ = some (.int .i64 ot) ∧ w'.cell? ⟨bn, 0, none⟩ = some (.int .i64 ep)
        have P122 : Hid (T121 w6.drew) := κ ⟨(Gt.c0 H111.out :), (Gt.c1 H111.out :), (Gt.c2 H111.out :), (Gt.c3 H111.out :), (Gt.c4 H111.out :), (Gt.c5 H111.out :), (Gt.c6 H111.out :), H116.out.c0, H116.out.c1, H116.out.c2, H116.out.c3, (H113.out.1.cell 0), (H113.out.1.cell 1), (H113.out.1.cell 2), (H113.out.1.cell 3), (H113.out.1.cell 4), (H113.out.1.cell 5), (H113.out.1.cell 6), (H114.out.1.cell 0)⟩
        refine Ω T121 [16] ?_
        generalize w6.drew = wd123 at H111 H112 H113 H114 H115 H116 H117 Z118 Z119 F120 P122 ⊢
        refine jA 0 P122.out ?_
        refine jA 1 P122.out ?_
        refine jA 2 P122.out ?_
        refine jA 3 P122.out ?_
        refine jB 4 P122.out ?_
        refine jA 5 P122.out ?_
        refine jA 6 P122.out ?_
        refine jB 7 P122.out ?_
        refine jB 8 P122.out ?_
        refine jA 9 P122.out ?_
        refine jB 10 P122.out ?_
        refine jN 11 fun K' hK => ?_
        go_simp
        refine (ADD.out wd123 H116.out.k.1 hir).mono ?_
        rintro e w8 ⟨A8, C8, c8, d8, rl8, rfl, hm8, hf8, hb8⟩
        have NW8 := κ H111.out.new
        have H124 := κ (Gt.ext H111.out hb8)
        have H125 := κ (Ac.ext H112.out hb8)
        have H126 := κ (B1.ext H113.out hb8)
        have H127 := κ (B1.ext H114.out hb8)
        have H128 := κ (B1.ext H115.out hb8)
        have H129 := κ (Bat.ext H116.out hb8)
        have H130 := κ (Blk.below' H117.out hb8)
        have Z131 := κ (Ro0.fs Z118.out (fx hb8) id)
        have Z132 := κ (Ro0.fs Z119.out (fx hb8) id)
        have F133 := κ (F120.out.trans (Fs.quiet hb8))
        obtain ⟨y8, hy8⟩ : ∃ y, y = (⟨A8, C8, c8, d8, rl8, Bks.addF G.sh G.wi x.b ⟨(i : Int), os, ox, op, oq, on, ot⟩ ep⟩ : Bx) := ⟨_, rfl⟩
        have KY : Hid (Bk0 ρ3 w8 y8) := κ (by rw [hy8]; exact Bk0.fresh hm8 NW8.out hf8)
        have HY8 := κ hy8
        clear hm8 hf8 hb8 NW8
        obtain ⟨z0, z1, z2, z3, z4, z5, z6⟩ := bat_cells H129.out
        unfold bkA
        clear hy8
        have P134 : Hid (T121 w8) := κ ⟨(Gt.c0 H124.out :), (Gt.c1 H124.out :), (Gt.c2 H124.out :), (Gt.c3 H124.out :), (Gt.c4 H124.out :), (Gt.c5 H124.out :), (Gt.c6 H124.out :), H129.out.c0, H129.out.c1, H129.out.c2, H129.out.c3, (H126.out.1.cell 0), (H126.out.1.cell 1), (H126.out.1.cell 2), (H126.out.1.cell 3), (H126.out.1.cell 4), (H126.out.1.cell 5), (H126.out.1.cell 6), (H127.out.1.cell 0)⟩
        refine hK.out _ _ P134.out ?_
        clear hK K'
        refine jP ?_
        refine jA 12 P134.out ?_
        refine jA 13 P134.out ?_
        refine jA 14 P134.out ?_
        refine jA 15 P134.out ?_
        refine jV 16 fun K' hK => ?_
        go_simp
        refine hK.out _ _ ?_
        clear hK K'
        refine jP ?_
        refine jZ 17 ?_
        refine Δ ?_
        have BP := book_put H124.out H129.out hsb KY.out
        have GB := κ BP.1
        have FB := κ BP.2
        have A9 := κ (Ac.fs H125.out FB.out (by omega) (by decide))
        have R9 := κ (FB.out.blk H130.out (by rw [RO.out]; omega))
        have S9 := κ (B1.fs H128.out FB.out (by decide))
        have Z49 := κ (Ro0.fs Z131.out FB.out (by decide))
        have Z59 := κ (Ro0.fs Z132.out FB.out (by decide))
        have F9 := κ (F133.out.trans (FB.out.mono (D := fun c => c = 3 ∨ c = g + 8) fun _ h => .inl h))
        clear BP FB z0 z1 z2 z3 z4 z5 z6
        have hp4 : ∀ (u0 u1 : Int) (v2 v3 : Value), u0 = y8.b.sh → u1 = y8.b.ca → v2 = .slice y8.A y8.b.rows.length y8.c → v3 = .slice y8.C y8.b.op.length y8.d → (((w8.setCell ⟨gb, sn * 4, none⟩ (.int .i64 u0)).setCell ⟨gb, sn * 4 + 1, none⟩ (.int .i64 u1)).setCell ⟨gb, sn * 4 + 2, none⟩ v2).setCell ⟨gb, sn * 4 + 3, none⟩ v3 = put4 w8 gb sn y8 := by rintro _ _ _ _ rfl rfl rfl rfl; rfl
        rw [hp4 _ _ _ _ (by rw [HY8.out]) (by rw [HY8.out]) (by rw [HY8.out]) (by rw [HY8.out])]
        clear hp4
        generalize put4 w8 gb sn y8 = w9 at GB A9 R9 S9 Z49 Z59 F9 ⊢
        obtain ⟨-, p2, p3, -, -, p5, p6, p7⟩ := pu_rd A9.out HGP.out
        have s0 := S9.out.1.cell 0
        have s1 := S9.out.1.cell 1
        simp at s0 s1
        have hUL : UU.length = a.pu.cu.length := by rw [HUU.out]; exact resU_len _ _ _ _
        obtain ⟨r', G10, A10, hr', F10, O10⟩ := pu_st GB.out A9.out HGP.out (cn := c4) (cu' := c5) Z49.out Z59.out hUL
        have G10 := κ G10
        have A10 := κ A10
        have HR := κ hr'
        have F10' := κ (F9.out.trans (F10.mono (D := fun c => c = 3 ∨ c = g + 8) fun _ h => .inr h))
        have R10 := κ (O10 _ _ _ (by decide) R9.out)
        clear F10 O10 hr' hUL
        go_upto_region 11 with fail
        generalize (w9.setCell ⟨gp, 2, none⟩ (.slice A4 a.pu.cl.length c4)).setCell ⟨gp, 3, none⟩ (.slice A5 UU.length c5) = w10 at G10 A10 F10' R10 ⊢
        obtain ⟨y0, y1, y2, y3, y4, y5⟩ := ans_cells R10.out
        have AS := κ (ans_st G10.out A10.out R10.out RO.out (0) (x.b.sh + G.sh * x.b.ca))
        go_wp2_with fail
        exact bodyPost_ret (v := .agg #[.int .i64 (0), .int .i64 (x.b.sh + G.sh * x.b.ca)]) (by simp [results, Tryz.results114, go_sem, y4, y5]) rfl (by rw [come_yes (k := kk) (by rw [HKK.out, HXB.out]; rfl) hk0 HRF.out hr0]; rw [← HXB.out]; rw [HY8.out, HUU.out] at AS; exact ⟨rfl, ρ3, _, _, F10'.out.trans (AS.out.2.2.1.mono fun _ h => .inr h), AS.out.1, AS.out.2.1, HR.out.trans HGP.out.symm⟩)
end Gx4
end Go.Proofs.YtaeddnjjeholgaaGreat
