/- Texts side by side. -/
import Derived.Test.YtaeddnjjeholgaaGreatUgas
set_option linter.unusedVariables false
set_option linter.unusedSimpArgs false
set_option maxRecDepth 100000
set_option maxHeartbeats 16000000
namespace Go.Proofs.YtaeddnjjeholgaaGreat
open Kap Go.ChangeShapes Go.WideShapes Go.ChangeAt Go.RowKit Go.Lib Mem Cel Bkp Bks Wpl Hpa Gpl Mdp Cfg Gow Gac Gat
namespace Gup
theorem hrow_set {u : Value} {x : He} : ∀ (E : List He) (p j : Nat), p < E.length → j < 21 → hv x = (hv (gH E p)).set j u → hrow (E.set p x) = (hrow E).set (p * 21 + j) u
  | [], _, _, h, _, _ => absurd h (by simp)
  | e :: E, 0, j, _, hj, h => by
    have he : (hv e).length = 21 := rfl
    show hv x ++ hrow E = (hv e ++ hrow E).set (0 * 21 + j) u
    rw [Nat.zero_mul, Nat.zero_add, List.set_append_left _ _ (by omega), h]
    simp [gH]
  | e :: E, p + 1, j, h, hj, hx => by
    have he : (hv e).length = 21 := rfl
    show hv e ++ hrow (E.set p x) = (hv e ++ hrow E).set ((p + 1) * 21 + j) u
    rw [List.set_append_right _ _ (by omega), he, hrow_set E p j (by simpa using h) hj (by simpa [gH] using hx)]
    congr 2
    omega
section
variable {C : Nat → Prop} {base : Nat} {ρ ρ' : Nat → Nat} {w w' : World} {g0 : Nat} {q : Gq} {G : Gp}
theorem Gt.logset (h : Gt base ρ w g0 q G) {p : Nat} (x : He) (e : Fs (· = 5) ρ w ρ w') (hn : ∀ k, w'.heap.size ≤ k → ρ k = 0) (hr : w'.ownsRow 0 123 21 (.slice q.Al G.log.length q.cl) G.log.length (hrow (G.log.set p x))) : Gt base ρ w' g0 q { G with log := G.log.set p x } :=
  ⟨h.low, hn, fun k => Nat.lt_of_lt_of_le (h.cap k) (Nat.add_le_add_right e.size 8), Nat.le_trans h.bs e.size, by have := e.blk h.blk (by rw [h.o0]; decide); unfold gqV at this ⊢; simpa only [List.length_set] using this, h.o0, h.nds.fs e (by decide), h.ris.fs e (by decide), h.smb.fs e (by decide), ⟨e.blk h.cs.c (by rw [h.o2.1]; decide), e.blk h.cs.cw (by rw [h.o2.2.1]; decide), e.blk h.cs.ch (by rw [h.o2.2.2]; decide), h.cs.n1, h.cs.n2, h.cs.n3⟩, h.o2, h.row.fs e (by decide), h.xb, fun i hi => (h.bk i hi).fs e (by decide), e.blk h.last (by rw [h.o4]; decide), h.o4,
   ⟨by simpa only [List.length_set] using hr, by simpa only [List.length_set] using h.log.2⟩, h.out.fs e (by decide), h.at'.fs e (by decide)⟩
theorem Gt.logpush (h : Gt base ρ w g0 q G) (x : He) {Al : Option Addr} {cl : Nat} (e : Fs (fun c => c = 1 ∨ c = 5) ρ w ρ' w') (hn : ∀ k, w'.heap.size ≤ k → ρ' k = 0) (hb : Blk w' g0 99 ((gqV q G).setIfInBounds 10 (.slice Al (G.log.length + 1) cl))) (hr : OwR ρ' w' 5 123 21 (.slice Al (G.log.length + 1) cl) (G.log.length + 1) (hrow (G.log ++ [x]))) : Gt base ρ' w' g0 { q with Al := Al, cl := cl } { G with log := G.log ++ [x] } :=
  ⟨fun k hk => (e.own k (Nat.lt_of_lt_of_le hk h.bs)).trans (h.low k hk), hn, e.cap _ (Nat.le_refl _) (fun k => Nat.lt_of_lt_of_le (h.cap k) (Nat.add_le_add_right e.size 8)), Nat.le_trans h.bs e.size, by unfold gqV at hb ⊢; simpa using hb, e.keep h.blk.lt h.o0, h.nds.fs e (by decide), h.ris.fs e (by decide), h.smb.fs e (by decide), ⟨e.blk h.cs.c (by rw [h.o2.1]; decide), e.blk h.cs.cw (by rw [h.o2.2.1]; decide), e.blk h.cs.ch (by rw [h.o2.2.2]; decide), h.cs.n1, h.cs.n2, h.cs.n3⟩, ⟨e.keep h.cs.c.lt h.o2.1, e.keep h.cs.cw.lt h.o2.2.1, e.keep h.cs.ch.lt h.o2.2.2⟩, h.row.fs e (by decide), h.xb, fun i hi => (h.bk i hi).fs e (by decide), e.blk h.last (by rw [h.o4]; decide), e.keep h.last.lt h.o4,
   by simpa using hr, h.out.fs e (by decide), h.at'.fs e (by decide)⟩
theorem Gt.outpush (h : Gt base ρ w g0 q G) (x : Int × Int) {Ao : Option Addr} {co : Nat} (e : Fs (fun c => c = 1 ∨ c = 6) ρ w ρ' w') (hn : ∀ k, w'.heap.size ≤ k → ρ' k = 0) (hb : Blk w' g0 99 ((gqV q G).setIfInBounds 11 (.slice Ao (G.out.length + 1) co))) (hr : OwR ρ' w' 6 93 2 (.slice Ao (G.out.length + 1) co) (G.out.length + 1) (Mem.nds (G.out ++ [x]))) : Gt base ρ' w' g0 { q with Ao := Ao, co := co } { G with out := G.out ++ [x] } :=
  ⟨fun k hk => (e.own k (Nat.lt_of_lt_of_le hk h.bs)).trans (h.low k hk), hn, e.cap _ (Nat.le_refl _) (fun k => Nat.lt_of_lt_of_le (h.cap k) (Nat.add_le_add_right e.size 8)), Nat.le_trans h.bs e.size, by unfold gqV at hb ⊢; simpa using hb, e.keep h.blk.lt h.o0, h.nds.fs e (by decide), h.ris.fs e (by decide), h.smb.fs e (by decide), ⟨e.blk h.cs.c (by rw [h.o2.1]; decide), e.blk h.cs.cw (by rw [h.o2.2.1]; decide), e.blk h.cs.ch (by rw [h.o2.2.2]; decide), h.cs.n1, h.cs.n2, h.cs.n3⟩, ⟨e.keep h.cs.c.lt h.o2.1, e.keep h.cs.cw.lt h.o2.2.1, e.keep h.cs.ch.lt h.o2.2.2⟩, h.row.fs e (by decide), h.xb, fun i hi => (h.bk i hi).fs e (by decide), e.blk h.last (by rw [h.o4]; decide), e.keep h.last.lt h.o4,
   h.log.fs e (by decide), by simpa using hr, h.at'.fs e (by decide)⟩
theorem Gt.atpush (h : Gt base ρ w g0 q G) (x : Int) {At : Option Addr} {ct : Nat} (e : Fs (fun c => c = 1 ∨ c = 7) ρ w ρ' w') (hn : ∀ k, w'.heap.size ≤ k → ρ' k = 0) (hb : Blk w' g0 99 ((gqV q G).setIfInBounds 12 (.slice At (G.at'.length + 1) ct))) (hr : OwR ρ' w' 7 3 1 (.slice At (G.at'.length + 1) ct) (G.at'.length + 1) (ints (G.at' ++ [x]))) : Gt base ρ' w' g0 { q with At := At, ct := ct } { G with at' := G.at' ++ [x] } :=
  ⟨fun k hk => (e.own k (Nat.lt_of_lt_of_le hk h.bs)).trans (h.low k hk), hn, e.cap _ (Nat.le_refl _) (fun k => Nat.lt_of_lt_of_le (h.cap k) (Nat.add_le_add_right e.size 8)), Nat.le_trans h.bs e.size, by unfold gqV at hb ⊢; simpa using hb, e.keep h.blk.lt h.o0, h.nds.fs e (by decide), h.ris.fs e (by decide), h.smb.fs e (by decide), ⟨e.blk h.cs.c (by rw [h.o2.1]; decide), e.blk h.cs.cw (by rw [h.o2.2.1]; decide), e.blk h.cs.ch (by rw [h.o2.2.2]; decide), h.cs.n1, h.cs.n2, h.cs.n3⟩, ⟨e.keep h.cs.c.lt h.o2.1, e.keep h.cs.cw.lt h.o2.2.1, e.keep h.cs.ch.lt h.o2.2.2⟩, h.row.fs e (by decide), h.xb, fun i hi => (h.bk i hi).fs e (by decide), e.blk h.last (by rw [h.o4]; decide), e.keep h.last.lt h.o4,
   h.log.fs e (by decide), h.out.fs e (by decide), by simpa using hr⟩
theorem Gt.lastset (h : Gt base ρ w g0 q G) (i : Nat) (x : Option Nat) (hi : i < G.lp.length) (hn : ∀ k, w.heap.size ≤ k → ρ k = 0) : Gt base ρ (w.setCell ⟨q.lb, i, none⟩ (pvo x)) g0 q { G with lp := G.lp.set i x } := by
  have e : Fs (· = 4) ρ w ρ (w.setCell ⟨q.lb, i, none⟩ (pvo x)) := Fs.set _ _ _ _ _ _ h.o4
  exact ⟨h.low, fun k hk => hn k (by simpa [World.setCell] using hk), fun k => Nat.lt_of_lt_of_le (h.cap k) (Nat.add_le_add_right e.size 8), Nat.le_trans h.bs e.size, by have := e.blk h.blk (by rw [h.o0]; decide); unfold gqV at this ⊢; simpa only [List.length_set] using this, h.o0, h.nds.fs e (by decide), h.ris.fs e (by decide), h.smb.fs e (by decide), ⟨e.blk h.cs.c (by rw [h.o2.1]; decide), e.blk h.cs.cw (by rw [h.o2.2.1]; decide), e.blk h.cs.ch (by rw [h.o2.2.2]; decide), h.cs.n1, h.cs.n2, h.cs.n3⟩, h.o2, h.row.fs e (by decide), h.xb, fun i hi => (h.bk i hi).fs e (by decide),
    by have := blk_set h.last i (pvo x); rwa [List.setIfInBounds_toArray, lps, ← List.map_set] at this, h.o4, h.log.fs e (by decide), h.out.fs e (by decide), h.at'.fs e (by decide)⟩
theorem Gt.book (h : Gt base ρ w g0 q G) (e : Fs (· = 3) ρ w ρ w') (hn : ∀ k, w'.heap.size ≤ k → ρ k = 0) {i : Nat} (hi : i < q.xs.length) {x : Bx} (hx : Bk0 ρ w x) (hr : w'.ownsRow 0 63 4 (.slice q.Ab G.bs.length q.cb) G.bs.length (bxs (q.xs.set i x))) : Gt base ρ w' g0 { q with xs := q.xs.set i x } { G with bs := G.bs.set i x.b } :=
  ⟨h.low, hn, fun k => Nat.lt_of_lt_of_le (h.cap k) (Nat.add_le_add_right e.size 8), Nat.le_trans h.bs e.size, by have := e.blk h.blk (by rw [h.o0]; decide); unfold gqV at this ⊢; simpa only [List.length_set] using this, h.o0, h.nds.fs e (by decide), h.ris.fs e (by decide), h.smb.fs e (by decide), ⟨e.blk h.cs.c (by rw [h.o2.1]; decide), e.blk h.cs.cw (by rw [h.o2.2.1]; decide), e.blk h.cs.ch (by rw [h.o2.2.2]; decide), h.cs.n1, h.cs.n2, h.cs.n3⟩, h.o2, ⟨by simpa only [List.length_set] using hr, by simpa only [List.length_set] using h.row.2⟩, by show (q.xs.set i x).map Bx.b = _; rw [List.map_set, h.xb], fun k hk => by
     have hk' : k < q.xs.length := by simpa using hk
     show Bk0 ρ w' (gX (q.xs.set i x) k)
     rw [gX_set _ _ _ _ hi]
     by_cases ek : k = i
     · rw [if_pos ek]; exact hx.fs e (by decide)
     · rw [if_neg ek]; exact (h.bk k hk').fs e (by decide), e.blk h.last (by rw [h.o4]; decide), h.o4, h.log.fs e (by decide), h.out.fs e (by decide), h.at'.fs e (by decide)⟩
end
section
variable {base : Nat} {ρ : Nat → Nat} {w : World} {g0 g : Nat} {q : Gq} {G : Gp} {r : Aq} {a : Ap}
theorem Gt.c0 (h : Gt base ρ w g0 q G) : w.cell? ⟨g0, 0, none⟩ = some (.int .i64 G.sh) := h.blk.cell 0
theorem Gt.c1 (h : Gt base ρ w g0 q G) : w.cell? ⟨g0, 1, none⟩ = some (.int .i64 G.wi) := h.blk.cell 1
theorem Gt.c2 (h : Gt base ρ w g0 q G) : w.cell? ⟨g0, 2, none⟩ = some (.int .i64 G.ra) := h.blk.cell 2
theorem Gt.c3 (h : Gt base ρ w g0 q G) : w.cell? ⟨g0, 3, none⟩ = some (.int .i64 G.ta) := h.blk.cell 3
theorem Gt.c4 (h : Gt base ρ w g0 q G) : w.cell? ⟨g0, 4, none⟩ = some (.slice q.A G.nd.length q.c) := h.blk.cell 4
theorem Gt.c5 (h : Gt base ρ w g0 q G) : w.cell? ⟨g0, 5, none⟩ = some (.slice q.B G.ac.length q.d) := h.blk.cell 5
theorem Gt.c6 (h : Gt base ρ w g0 q G) : w.cell? ⟨g0, 6, none⟩ = some (.slice q.C G.sy.length q.f) := h.blk.cell 6
theorem Gt.c7 (h : Gt base ρ w g0 q G) : w.cell? ⟨g0, 7, none⟩ = some (.pointer (some ⟨q.gc, 0, none⟩)) := h.blk.cell 7
theorem Gt.c8 (h : Gt base ρ w g0 q G) : w.cell? ⟨g0, 8, none⟩ = some (.slice q.Ab G.bs.length q.cb) := h.blk.cell 8
theorem Gt.c9 (h : Gt base ρ w g0 q G) : w.cell? ⟨g0, 9, none⟩ = some (.slice (some ⟨q.lb, 0, none⟩) G.lp.length G.lp.length) := h.blk.cell 9
theorem Gt.c10 (h : Gt base ρ w g0 q G) : w.cell? ⟨g0, 10, none⟩ = some (.slice q.Al G.log.length q.cl) := h.blk.cell 10
theorem Gt.c11 (h : Gt base ρ w g0 q G) : w.cell? ⟨g0, 11, none⟩ = some (.slice q.Ao G.out.length q.co) := h.blk.cell 11
theorem Gt.c12 (h : Gt base ρ w g0 q G) : w.cell? ⟨g0, 12, none⟩ = some (.slice q.At G.at'.length q.ct) := h.blk.cell 12
theorem Gt.z (h : Gt base ρ w g0 q G) (i : Nat) : w.frozen? ⟨g0, i, none⟩ = false := h.blk.thaw i
theorem Ac.c0 (h : Ac ρ w g0 g r a) : w.cell? ⟨g, 0, none⟩ = some (.pointer (some ⟨g0, 0, none⟩)) := h.blk.cell 0
theorem Ac.c1 (h : Ac ρ w g0 g r a) : w.cell? ⟨g, 1, none⟩ = some (.int .i64 a.who) := h.blk.cell 1
theorem Ac.c2 (h : Ac ρ w g0 g r a) : w.cell? ⟨g, 2, none⟩ = some (.int .i64 a.place) := h.blk.cell 2
theorem Ac.c3 (h : Ac ρ w g0 g r a) : w.cell? ⟨g, 3, none⟩ = some (.slice r.A a.todo.length r.c) := h.blk.cell 3
theorem Ac.c4 (h : Ac ρ w g0 g r a) : w.cell? ⟨g, 4, none⟩ = some (.int .i64 a.c) := h.blk.cell 4
theorem Ac.c5 (h : Ac ρ w g0 g r a) : w.cell? ⟨g, 5, none⟩ = some (.int .i64 a.d) := h.blk.cell 5
theorem Ac.z (h : Ac ρ w g0 g r a) (i : Nat) : w.frozen? ⟨g, i, none⟩ = false := h.blk.thaw i
theorem B1.c {b te : Nat} {v : Value} (h : B1 ρ w b te #[v]) : w.cell? ⟨b, 0, none⟩ = some v := h.1.cell 0
end
theorem Gt.loggrow {base : Nat} {ρ : Nat → Nat} {w w' : World} {g0 gn cap : Nat} {q : Gq} {G : Gp} (h : Gt base ρ w g0 q G) (x : He) (ho : w'.ownsRow 0 123 21 (.slice (some ⟨gn, 0, none⟩) (G.log.length + 1) cap) (G.log.length + 1) (hrow (G.log ++ [x]))) (hg : w.grownBy w' (Value.slice q.Al G.log.length q.cl).ownBlock) (hat : (Value.slice q.Al G.log.length q.cl).ownBlock = some gn ∨ gn = w.heap.size) (hlt : gn < w'.heap.size) :
    ∃ ρ', Gt base ρ' (w'.setCell ⟨g0, 10, none⟩ (.slice (some ⟨gn, 0, none⟩) (G.log.length + 1) cap)) g0 { q with Al := some ⟨gn, 0, none⟩, cl := cap } { G with log := G.log ++ [x] } ∧ Fs (fun c => c = 1 ∨ c = 5) ρ w ρ' (w'.setCell ⟨g0, 10, none⟩ (.slice (some ⟨gn, 0, none⟩) (G.log.length + 1) cap)) := by
  have hO := OwR.grow h.log ho hat
  have e1 : Fs (fun c => c = 1 ∨ c = 5) ρ w (if (Value.slice q.Al G.log.length q.cl).ownBlock = some gn then ρ else put ρ gn 5) w' := Fs.grown hg (fun b hb => .inr (h.log.2 b hb)) (grow_own hat) (fun N _ h => grow_cap (by decide) N h)
  have hz : ∀ k, w'.heap.size ≤ k → (if (Value.slice q.Al G.log.length q.cl).ownBlock = some gn then ρ else put ρ gn 5) k = 0 := by
    intro k hk
    have hw := hg.size
    split
    · exact h.new k (by omega)
    · rw [put_ne (by omega)]; exact h.new k (by omega)
  have o1 := e1.keep h.blk.lt h.o0
  have b1 : Blk w' g0 99 (gqV q G) := (hg.block g0 h.blk.lt (fun e => by have := h.log.2 g0 e.symm; rw [h.o0] at this; cases this)).trans h.blk
  have e2 := e1.trans (Fs.set (fun c => c = 1 ∨ c = 5) _ w' g0 10 (.slice (some ⟨gn, 0, none⟩) (G.log.length + 1) cap) (.inl o1))
  refine ⟨_, Gt.logpush h x e2 (fun k hk => hz k (by simpa [World.setCell] using hk)) (blk_set b1 10 _) (OwR.fs hO (Fs.set (· = 1) _ w' g0 10 _ o1) (by decide)), e2⟩
theorem Gt.outgrow {base : Nat} {ρ : Nat → Nat} {w w' : World} {g0 gn cap : Nat} {q : Gq} {G : Gp} (h : Gt base ρ w g0 q G) (x : Int × Int) (ho : w'.ownsRow 0 93 2 (.slice (some ⟨gn, 0, none⟩) (G.out.length + 1) cap) (G.out.length + 1) (Mem.nds (G.out ++ [x]))) (hg : w.grownBy w' (Value.slice q.Ao G.out.length q.co).ownBlock) (hat : (Value.slice q.Ao G.out.length q.co).ownBlock = some gn ∨ gn = w.heap.size) (hlt : gn < w'.heap.size) :
    ∃ ρ', Gt base ρ' (w'.setCell ⟨g0, 11, none⟩ (.slice (some ⟨gn, 0, none⟩) (G.out.length + 1) cap)) g0 { q with Ao := some ⟨gn, 0, none⟩, co := cap } { G with out := G.out ++ [x] } ∧ Fs (fun c => c = 1 ∨ c = 6) ρ w ρ' (w'.setCell ⟨g0, 11, none⟩ (.slice (some ⟨gn, 0, none⟩) (G.out.length + 1) cap)) := by
  have hO := OwR.grow h.out ho hat
  have e1 : Fs (fun c => c = 1 ∨ c = 6) ρ w (if (Value.slice q.Ao G.out.length q.co).ownBlock = some gn then ρ else put ρ gn 6) w' := Fs.grown hg (fun b hb => .inr (h.out.2 b hb)) (grow_own hat) (fun N _ h => grow_cap (by decide) N h)
  have hz : ∀ k, w'.heap.size ≤ k → (if (Value.slice q.Ao G.out.length q.co).ownBlock = some gn then ρ else put ρ gn 6) k = 0 := by
    intro k hk
    have hw := hg.size
    split
    · exact h.new k (by omega)
    · rw [put_ne (by omega)]; exact h.new k (by omega)
  have o1 := e1.keep h.blk.lt h.o0
  have b1 : Blk w' g0 99 (gqV q G) := (hg.block g0 h.blk.lt (fun e => by have := h.out.2 g0 e.symm; rw [h.o0] at this; cases this)).trans h.blk
  have e2 := e1.trans (Fs.set (fun c => c = 1 ∨ c = 6) _ w' g0 11 (.slice (some ⟨gn, 0, none⟩) (G.out.length + 1) cap) (.inl o1))
  refine ⟨_, Gt.outpush h x e2 (fun k hk => hz k (by simpa [World.setCell] using hk)) (blk_set b1 11 _) (OwR.fs hO (Fs.set (· = 1) _ w' g0 11 _ o1) (by decide)), e2⟩
theorem Gt.atgrow {base : Nat} {ρ : Nat → Nat} {w w' : World} {g0 gn cap : Nat} {q : Gq} {G : Gp} (h : Gt base ρ w g0 q G) (x : Int) (ho : w'.ownsRow 0 3 1 (.slice (some ⟨gn, 0, none⟩) (G.at'.length + 1) cap) (G.at'.length + 1) (ints (G.at' ++ [x]))) (hg : w.grownBy w' (Value.slice q.At G.at'.length q.ct).ownBlock) (hat : (Value.slice q.At G.at'.length q.ct).ownBlock = some gn ∨ gn = w.heap.size) (hlt : gn < w'.heap.size) :
    ∃ ρ', Gt base ρ' (w'.setCell ⟨g0, 12, none⟩ (.slice (some ⟨gn, 0, none⟩) (G.at'.length + 1) cap)) g0 { q with At := some ⟨gn, 0, none⟩, ct := cap } { G with at' := G.at' ++ [x] } ∧ Fs (fun c => c = 1 ∨ c = 7) ρ w ρ' (w'.setCell ⟨g0, 12, none⟩ (.slice (some ⟨gn, 0, none⟩) (G.at'.length + 1) cap)) := by
  have hO := OwR.grow h.at' ho hat
  have e1 : Fs (fun c => c = 1 ∨ c = 7) ρ w (if (Value.slice q.At G.at'.length q.ct).ownBlock = some gn then ρ else put ρ gn 7) w' := Fs.grown hg (fun b hb => .inr (h.at'.2 b hb)) (grow_own hat) (fun N _ h => grow_cap (by decide) N h)
  have hz : ∀ k, w'.heap.size ≤ k → (if (Value.slice q.At G.at'.length q.ct).ownBlock = some gn then ρ else put ρ gn 7) k = 0 := by
    intro k hk
    have hw := hg.size
    split
    · exact h.new k (by omega)
    · rw [put_ne (by omega)]; exact h.new k (by omega)
  have o1 := e1.keep h.blk.lt h.o0
  have b1 : Blk w' g0 99 (gqV q G) := (hg.block g0 h.blk.lt (fun e => by have := h.at'.2 g0 e.symm; rw [h.o0] at this; cases this)).trans h.blk
  have e2 := e1.trans (Fs.set (fun c => c = 1 ∨ c = 7) _ w' g0 12 (.slice (some ⟨gn, 0, none⟩) (G.at'.length + 1) cap) (.inl o1))
  refine ⟨_, Gt.atpush h x e2 (fun k hk => hz k (by simpa [World.setCell] using hk)) (blk_set b1 12 _) (OwR.fs hO (Fs.set (· = 1) _ w' g0 12 _ o1) (by decide)), e2⟩
end Gup
namespace Gbp
open Gup
theorem gX_left {l : List Bx} {x : Bx} {i : Nat} (h : i < l.length) : gX (l ++ [x]) i = gX l i := by
  unfold gX
  rw [List.getD_eq_getElem?_getD, List.getD_eq_getElem?_getD, List.getElem?_append_left h]
theorem gX_last {l : List Bx} {x : Bx} : gX (l ++ [x]) l.length = x := by
  unfold gX
  rw [List.getD_eq_getElem?_getD, List.getElem?_append_right (Nat.le_refl _), Nat.sub_self]
  rfl
theorem Gt.bookpush {base : Nat} {ρ ρ' : Nat → Nat} {w w' : World} {g0 : Nat} {q : Gq} {G : Gp} (h : Gt base ρ w g0 q G) (x : Bx) (hx : Bk0 ρ w x) {Ab : Option Addr} {cb : Nat} (e : Fs (fun c => c = 1 ∨ c = 3) ρ w ρ' w') (hn : ∀ k, w'.heap.size ≤ k → ρ' k = 0) (hb : Blk w' g0 99 ((gqV q G).setIfInBounds 8 (.slice Ab (G.bs.length + 1) cb))) (hr : OwR ρ' w' 3 63 4 (.slice Ab (G.bs.length + 1) cb) (G.bs.length + 1) (bxs (q.xs ++ [x]))) : Gt base ρ' w' g0 { q with Ab := Ab, cb := cb, xs := q.xs ++ [x] } { G with bs := G.bs ++ [x.b] } := by
  refine ⟨fun k hk => (e.own k (Nat.lt_of_lt_of_le hk h.bs)).trans (h.low k hk), hn, e.cap _ (Nat.le_refl _) (fun k => Nat.lt_of_lt_of_le (h.cap k) (Nat.add_le_add_right e.size 8)), Nat.le_trans h.bs e.size, by unfold gqV at hb ⊢; simpa using hb, e.keep h.blk.lt h.o0, h.nds.fs e (by decide), h.ris.fs e (by decide), h.smb.fs e (by decide), ⟨e.blk h.cs.c (by rw [h.o2.1]; decide), e.blk h.cs.cw (by rw [h.o2.2.1]; decide), e.blk h.cs.ch (by rw [h.o2.2.2]; decide), h.cs.n1, h.cs.n2, h.cs.n3⟩, ⟨e.keep h.cs.c.lt h.o2.1, e.keep h.cs.cw.lt h.o2.2.1, e.keep h.cs.ch.lt h.o2.2.2⟩, by simpa using hr, by show (q.xs ++ [x]).map Bx.b = _; rw [List.map_append, h.xb]; rfl, fun i hi => ?_, e.blk h.last (by rw [h.o4]; decide), e.keep h.last.lt h.o4, h.log.fs e (by decide), h.out.fs e (by decide), h.at'.fs e (by decide)⟩
  show Bk0 ρ' w' (gX (q.xs ++ [x]) i)
  have hi : i < (q.xs ++ [x]).length := hi
  rw [List.length_append] at hi
  by_cases h2 : i < q.xs.length
  · rw [gX_left h2]; exact (h.bk i h2).fs e (by decide)
  · have h3 : i = q.xs.length := by simp at hi; omega
    rw [h3, gX_last]; exact hx.fs e (by decide)
theorem Gt.bookgrow {base : Nat} {ρ : Nat → Nat} {w w' : World} {g0 gn cap : Nat} {q : Gq} {G : Gp} (h : Gt base ρ w g0 q G) (x : Bx) (hx : Bk0 ρ w x) (ho : w'.ownsRow 0 63 4 (.slice (some ⟨gn, 0, none⟩) (G.bs.length + 1) cap) (G.bs.length + 1) (bxs (q.xs ++ [x]))) (hg : w.grownBy w' (Value.slice q.Ab G.bs.length q.cb).ownBlock) (hat : (Value.slice q.Ab G.bs.length q.cb).ownBlock = some gn ∨ gn = w.heap.size) (hlt : gn < w'.heap.size) :
    ∃ ρ', Gt base ρ' (w'.setCell ⟨g0, 8, none⟩ (.slice (some ⟨gn, 0, none⟩) (G.bs.length + 1) cap)) g0 { q with Ab := some ⟨gn, 0, none⟩, cb := cap, xs := q.xs ++ [x] } { G with bs := G.bs ++ [x.b] } ∧ Fs (fun c => c = 1 ∨ c = 3) ρ w ρ' (w'.setCell ⟨g0, 8, none⟩ (.slice (some ⟨gn, 0, none⟩) (G.bs.length + 1) cap)) := by
  have hO := OwR.grow h.row ho hat
  have e1 : Fs (fun c => c = 1 ∨ c = 3) ρ w (if (Value.slice q.Ab G.bs.length q.cb).ownBlock = some gn then ρ else put ρ gn 3) w' := Fs.grown hg (fun b hb => .inr (h.row.2 b hb)) (grow_own hat) (fun N _ h => grow_cap (by decide) N h)
  have hz : ∀ k, w'.heap.size ≤ k → (if (Value.slice q.Ab G.bs.length q.cb).ownBlock = some gn then ρ else put ρ gn 3) k = 0 := by
    intro k hk
    have hw := hg.size
    split
    · exact h.new k (by omega)
    · rw [put_ne (by omega)]; exact h.new k (by omega)
  have o1 := e1.keep h.blk.lt h.o0
  have b1 : Blk w' g0 99 (gqV q G) := (hg.block g0 h.blk.lt (fun e => by have := h.row.2 g0 e.symm; rw [h.o0] at this; cases this)).trans h.blk
  have e2 := e1.trans (Fs.set (fun c => c = 1 ∨ c = 3) _ w' g0 8 (.slice (some ⟨gn, 0, none⟩) (G.bs.length + 1) cap) (.inl o1))
  exact ⟨_, Gt.bookpush h x hx e2 (fun k hk => hz k (by simpa [World.setCell] using hk)) (blk_set b1 8 _) (OwR.fs hO (Fs.set (· = 1) _ w' g0 8 _ o1) (by decide)), e2⟩
end Gbp
end Go.Proofs.YtaeddnjjeholgaaGreat
