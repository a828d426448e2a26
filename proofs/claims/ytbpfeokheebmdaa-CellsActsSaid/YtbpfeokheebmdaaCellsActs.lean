/- For every slice of accesses the law CellsActs returns true, and changes nothing: each access answers as one of plain words and latches. No condition. -/
import Derived.Test.YtbpfeokheebmdaaCu
import Derived.Test.YtbpfeokheebmdaaOpn
namespace Go.Proofs.Ytbpfeokheebmdaa.cellsActs
set_option maxRecDepth 100000
open Go.ChangeShapes Go.WideShapes Go.ChangeAt Go.RowKit Mem Cel Cm Cn Cx Cy Cz Cr Ct Cu Opn Go.Joins Go.Deep
set_option linter.unusedVariables false

theorem own : ownKnob Try.prog.godebug = none := by kernel_rfl
theorem laidOut : laidOutB Try.prog = true := by kernel_rfl

def V5 (w : World) (b o : Nat) (q : Int × Int × Int × Int × Int) : Prop :=
  w.cell? ⟨b, o, none⟩ = some (.int .i64 q.1) ∧ w.cell? ⟨b, o + 1, none⟩ = some (.int .i64 q.2.1) ∧ w.cell? ⟨b, o + 2, none⟩ = some (.int .i64 q.2.2.1) ∧ w.cell? ⟨b, o + 3, none⟩ = some (.int .i64 q.2.2.2.1) ∧ w.cell? ⟨b, o + 4, none⟩ = some (.int .i64 q.2.2.2.2)
/-- n things of five numbers each -/
def Fvs (w : World) (B : Nat) (A : Option Addr) (n : Nat) : Prop := ∀ i, i < n → ∃ b o q, A = some ⟨b, o, none⟩ ∧ b < B ∧ V5 w b (o + i * 5) q
theorem open_fives {H : Type} {enc : TypeId × Value → H} {P : Program} {w : World} {t e : TypeId} {f0 f1 f2 f3 f4 : Field} {v : Value} {fuel : Nat} {x : DataW H × List MemPlace} {base : Nat} {held : Bool}
    (ht : P.underlying t = some (.slice e)) (he : P.underlying e = some (.struct #[f0, f1, f2, f3, f4])) (ce : P.cellsOf e = 5) (o0 : f0.offset = 0) (o1 : f1.offset = 1) (o2 : f2.offset = 2) (o3 : f3.offset = 3) (o4 : f4.offset = 4)
    (c0 : P.cellsOf f0.type = 1) (c1 : P.cellsOf f1.type = 1) (c2 : P.cellsOf f2.type = 1) (c3 : P.cellsOf f3.type = 1) (c4 : P.cellsOf f4.type = 1) (u0 : P.underlying f0.type = some (.int .i64)) (u1 : P.underlying f1.type = some (.int .i64)) (u2 : P.underlying f2.type = some (.int .i64)) (u3 : P.underlying f3.type = some (.int .i64)) (u4 : P.underlying f4.type = some (.int .i64))
    (hf : DataW.trod enc P w base (fun _ => true) held fuel t [v] = some x) :
    ∃ A n c, v = .slice A n c ∧ n ≤ c ∧ c ≤ maxLen ∧ Fvs w w.heap.size A n := by
  rcases Go.Deep.open_slice ht hf with ⟨hc, _⟩ | ⟨a, len, cap, m, n, D, Pl, hc, hb, hl, hm, hmm, _, hx⟩
  · injection hc with hc
    exact ⟨none, 0, 0, hc, by simp, by unfold maxLen; omega, fun i hi => by omega⟩
  · injection hc with hc
    subst hc
    have hm2 : m = cap := by rw [hmm]; simp
    subst hm2
    refine ⟨some a, len, m, rfl, hl, hm, fun i hi => ?_⟩
    obtain ⟨ab, ao, asp⟩ := a
    have hs : asp = none := by
      obtain ⟨cs', h1, _⟩ := hx 0 (by omega)
      rw [ce] at h1
      obtain ⟨_, hlen, hcell⟩ := World.cells?_some h1
      have e0 := hcell 0 (by omega)
      rw [Go.Deep.add_add] at e0
      match cs', hlen with
      | [v0, v1, v2, v3, v4], _ => exact spot_none (by simpa using e0)
    subst hs
    obtain ⟨cs', h1, h2⟩ := hx i (by omega)
    rw [ce] at h1
    obtain ⟨_, hlen, hcell⟩ := World.cells?_some h1
    obtain ⟨xs, k, hk, hxy, _, hxl, hfs⟩ := DataW.trod_struct he h2
    match xs, hxl, cs', hlen with
    | [y0, y1, y2, y3, y4], _, [v0, v1, v2, v3, v4], _ =>
      have g0 := hfs 0 f0 rfl
      have g1 := hfs 1 f1 rfl
      have g2 := hfs 2 f2 rfl
      have g3 := hfs 3 f3 rfl
      have g4 := hfs 4 f4 rfl
      simp [o0, o1, o2, o3, o4, c0, c1, c2, c3, c4] at g0 g1 g2 g3 g4
      have e0 := hcell 0 (by omega)
      have e1 := hcell 1 (by omega)
      have e2 := hcell 2 (by omega)
      have e3 := hcell 3 (by omega)
      have e4 := hcell 4 (by omega)
      rw [Go.Deep.add_add] at e0 e1 e2 e3 e4
      obtain ⟨x, hx, _, wx⟩ := DataW.trod_int u0 g0
      obtain ⟨y, hy, _, wy⟩ := DataW.trod_int u1 g1
      obtain ⟨z, hz, _, wz⟩ := DataW.trod_int u2 g2
      obtain ⟨u, hu, _, wu⟩ := DataW.trod_int u3 g3
      obtain ⟨p, hp, _, wp⟩ := DataW.trod_int u4 g4
      simp at hx hy hz hu hp
      subst hx hy hz hu hp
      rw [add_lit'] at e0 e1 e2 e3 e4
      refine ⟨ab, ao, (x, y, z, u, p), rfl, ?_, ?_⟩
      · exact blk_lt (by simpa using e0)
      · exact ⟨by simpa using e0, by simpa [Nat.add_assoc] using e1, by simpa [Nat.add_assoc] using e2, by simpa [Nat.add_assoc] using e3, by simpa [Nat.add_assoc] using e4⟩
theorem wrap_u64 (x : Int) : IntKind.u64.wrap x = x % 18446744073709551616 := by simp [IntKind.wrap, IntKind.bits, IntKind.signed]
theorem mod5 (x : Int) : wrap64 ((IntKind.u64.wrap x).tmod 5) = 0 ∨ wrap64 ((IntKind.u64.wrap x).tmod 5) = 1 ∨ wrap64 ((IntKind.u64.wrap x).tmod 5) = 2 ∨ wrap64 ((IntKind.u64.wrap x).tmod 5) = 3 ∨ wrap64 ((IntKind.u64.wrap x).tmod 5) = 4 := by
  rw [wrap_u64, Int.tmod_eq_emod_of_nonneg (Int.emod_nonneg _ (by decide))]
  unfold wrap64
  omega
theorem few4 (s : S) (h : s.ws.length = 4 ∧ s.hs.length = 3) : (s.ws.length : Int) ≤ 9223372036854775807 ∧ (s.hs.length : Int) ≤ 9223372036854775807 := by omega
/-- the Cells and the reference's, of one state, apart -/
structure Two (w : World) (M g gw gh r rw rh : Nat) (s : S) : Prop where
  c : Cs w 51 g gw gh s
  r : Cs w 40 r rw rh s
  len : s.ws.length = 4 ∧ s.hs.length = 3
theorem Two.below {w w' : World} {M g gw gh r rw rh : Nat} {s : S} (h : Two w M g gw gh r rw rh s) (hb : Below w.heap.size w w') : Two w' M g gw gh r rw rh s := ⟨h.c.below hb, h.r.below hb, h.len⟩
set_option maxHeartbeats 8000000 in
theorem inner2 (A : Option Addr) (n c : Nat) (w : World) (hlc : n ≤ c) (hc : (c : Int) ≤ 9223372036854775807) (hr : Hid (Fvs w w.heap.size A n)) :
    Calls Try.prog 3 #[.slice A n c] w (MadeB true w) := by
  go_enter Try.func3, Try.ntmps3
  go_wp2_with fail
  refine (new_any 4 3 _ (by omega) (by omega)).mono ?_
  rintro e w0 ⟨g, gw, gh, rfl, h0, hg, hgw, hgh, hb0⟩
  have B0 := Lib.hid hb0
  have H0 : Hid (Cs w0 51 g gw gh ⟨[0, 0, 0, 0], [-1, -1, -1], 0⟩) := h0
  obtain ⟨M, hM⟩ : ∃ M, M = w0.heap.size := ⟨_, rfl⟩
  have hlo : Hid (g < M ∧ gw < M ∧ gh < M) := by subst hM; exact ⟨h0.c.lt, h0.cw.lt, h0.ch.lt⟩
  clear hb0 h0
  simp only [vNew]
  go_wp2_with fail
  refine (rnew_any 4 3 _ (by omega) (by omega)).mono ?_
  rintro e w1 ⟨r, rw', rh, rfl, h1, hr1, hr2, hr3, hb1⟩
  have H1 : Hid (Two w1 M g gw gh r rw' rh ⟨[0, 0, 0, 0], [-1, -1, -1], 0⟩) := ⟨H0.out.below hb1, h1, rfl, rfl⟩
  have hhi : Hid (M ≤ r ∧ M ≤ rw' ∧ M ≤ rh) := by subst hM; exact ⟨hr1, hr2, hr3⟩
  have hge : Hid (w.heap.size ≤ r ∧ w.heap.size ≤ rw' ∧ w.heap.size ≤ rh) := by have := B0.out.size; exact ⟨by omega, by omega, by omega⟩
  have hgc : Hid (w.heap.size ≤ g ∧ w.heap.size ≤ gw ∧ w.heap.size ≤ gh) := ⟨hg, hgw, hgh⟩
  have B1 := Lib.hid (below_step B0.out hb1)
  clear hb1 h1 H0 B0 hM hg hgw hgh hr1 hr2 hr3
  simp only [vRef]
  go_wp2_with fail
  refine (told_any _).mono ?_
  rintro e w2 ⟨rfl, hb2⟩
  have H2 := Lib.hid (H1.out.below hb2)
  have B2 := Lib.hid (below_step B1.out hb2)
  clear hb2 H1 B1
  go_wp2_with fail
  go_loopg [6] 300 (fun q s6 w' => ∃ (k : Nat) (s : S), k + q = 300 ∧ s6 = .int .i64 k ∧ Hid (Two w' M g gw gh r rw' rh s) ∧ Hid (Below w.heap.size w w'))
  case atStart => exact ⟨0, _, by omega, rfl, H2, B2⟩
  case round =>
    obtain ⟨k, s, hk, rfl, hcs, hbel⟩ := hrel
    clear H2 B2
    by_cases hlt : k < n
    · have t0 : decide ((k : Int) < (n : Int)) = true := by simp; omega
      by_cases h300 : k < 300
      · obtain ⟨q, rfl⟩ : ∃ q, gk = q + 1 := ⟨gk - 1, by omega⟩
        have t1 : decide ((k : Int) < 300) = true := by simp; omega
        obtain ⟨b, o, ⟨x0, x1, x2, x3, x4⟩, hA, hb, v0, v1, v2, v3, v4⟩ := hr.out k hlt
        subst hA
        have hc0 : wr.cell? ⟨b, o + k * 5, none⟩ = some (.int .i64 x0) := (hbel.out.cell (p := ⟨b, o + k * 5, none⟩) hb).trans v0
        have hc1 : wr.cell? ⟨b, o + k * 5 + 1, none⟩ = some (.int .i64 x1) := (hbel.out.cell (p := ⟨b, o + k * 5 + 1, none⟩) hb).trans v1
        have hc2 : wr.cell? ⟨b, o + k * 5 + 2, none⟩ = some (.int .i64 x2) := (hbel.out.cell (p := ⟨b, o + k * 5 + 2, none⟩) hb).trans v2
        have hc3 : wr.cell? ⟨b, o + k * 5 + 3, none⟩ = some (.int .i64 x3) := (hbel.out.cell (p := ⟨b, o + k * 5 + 3, none⟩) hb).trans v3
        have hc4 : wr.cell? ⟨b, o + k * 5 + 4, none⟩ = some (.int .i64 x4) := (hbel.out.cell (p := ⟨b, o + k * 5 + 4, none⟩) hb).trans v4
        clear v0 v1 v2 v3 v4
        go_upto_region 10 with fail
        have hm5 := Lib.hid (mod5 x0)
        generalize wrap64 ((IntKind.u64.wrap x0).tmod 5) = m at hm5 ⊢
        obtain ⟨te, hte⟩ : ∃ te : Nat, te = 31 := ⟨_, rfl⟩
        have bW : Below wr.heap.size wr (wr.alloc (.cells #[.int .i64 m, .int .i64 x1, .int .i64 x2, .int .i64 x3, .int .i64 x4] 31)) := (Below.refl _ _).alloc (Nat.le_refl _) _
        have kO : Hid (Blk (wr.alloc (.cells #[.int .i64 m, .int .i64 x1, .int .i64 x2, .int .i64 x3, .int .i64 x4] 31)) wr.heap.size 31 #[.int .i64 m, .int .i64 x1, .int .i64 x2, .int .i64 x3, .int .i64 x4]) := Blk.fresh _ _ _
        have hW := Lib.hid (hcs.out.below bW)
        have bW2 := Lib.hid (below_step hbel.out bW)
        have hgO : Hid (g < wr.heap.size ∧ gw < wr.heap.size ∧ gh < wr.heap.size) := ⟨hcs.out.c.c.lt, hcs.out.c.cw.lt, hcs.out.c.ch.lt⟩
        clear bW hc0 hc1 hc2 hc3 hc4 hte te
        generalize (wr.alloc (.cells #[.int .i64 m, .int .i64 x1, .int .i64 x2, .int .i64 x3, .int .i64 x4] 31)) = wA at kO hW bW2 ⊢
        generalize wr.heap.size = gO at kO hgO ⊢
        have o0 : wA.cell? ⟨gO, 0, none⟩ = some (.int .i64 m) := kO.out.cell 0
        have o1 : wA.cell? ⟨gO, 1, none⟩ = some (.int .i64 x1) := kO.out.cell 1
        have o2 : wA.cell? ⟨gO, 2, none⟩ = some (.int .i64 x2) := kO.out.cell 2
        have o3 : wA.cell? ⟨gO, 3, none⟩ = some (.int .i64 x3) := kO.out.cell 3
        have o4 : wA.cell? ⟨gO, 4, none⟩ = some (.int .i64 x4) := kO.out.cell 4
        clear hcs hbel
        go_wp2_with fail
        refine (do_any g gw gh s m x1 x2 x3 x4 wA hW.out.c (few4 _ hW.out.len).1 (few4 _ hW.out.len).2 hm5.out).mono ?_
        rintro e wB ⟨rfl, hB, kB⟩
        have lR : Hid ((stepF s m x1 x2 x3 x4).2.ws.length = 4 ∧ (stepF s m x1 x2 x3 x4).2.hs.length = 3) := ⟨(step_ws ..).trans hW.out.len.1, (step_hs ..).trans hW.out.len.2⟩
        have hR : Hid (Cs wB 40 r rw' rh s) := hW.out.r.kept kB M (by have h1 := hlo.out; have h2 := hhi.out; right; omega)
        have kP : Hid (Blk wB gO 31 #[.int .i64 m, .int .i64 x1, .int .i64 x2, .int .i64 x3, .int .i64 x4]) := kB.blk kO.out (by have := hgO.out; omega) (by have := hgO.out; omega) (by have := hgO.out; omega)
        have bB := Lib.hid (kept_step bW2.out kB hgc.out.1 hgc.out.2.1 hgc.out.2.2)
        have HB := Lib.hid hB
        have fR := few4 _ hW.out.len
        clear o0 o1 o2 o3 o4 kO hgO hW bW2 hB kB
        have o0 : wB.cell? ⟨gO, 0, none⟩ = some (.int .i64 m) := kP.out.cell 0
        have o1 : wB.cell? ⟨gO, 1, none⟩ = some (.int .i64 x1) := kP.out.cell 1
        have o2 : wB.cell? ⟨gO, 2, none⟩ = some (.int .i64 x2) := kP.out.cell 2
        have o3 : wB.cell? ⟨gO, 3, none⟩ = some (.int .i64 x3) := kP.out.cell 3
        have o4 : wB.cell? ⟨gO, 4, none⟩ = some (.int .i64 x4) := kP.out.cell 4
        generalize hst : stepF s m x1 x2 x3 x4 = R at lR HB ⊢
        have HST := Lib.hid hst
        clear hst
        obtain ⟨⟨x, bb⟩, s'⟩ := R
        go_wp2_with fail
        refine (rdo_any r rw' rh s m x1 x2 x3 x4 wB hR fR.1 fR.2 hm5.out).mono ?_
        rw [HST.out]
        rintro e wC ⟨rfl, hC, kC⟩
        have QQ : Hid (Two wC M g gw gh r rw' rh s') := ⟨HB.out.kept kC M (by have h1 := hlo.out; have h2 := hhi.out; left; omega), hC, lR.out⟩
        have bC := Lib.hid (kept_step bB.out kC hge.out.1 hge.out.2.1 hge.out.2.2)
        clear o0 o1 o2 o3 o4 kP hR HB bB hC kC fR HST hm5
        have csN : ∀ N, Hid (Cs (wC.drewN N) 51 g gw gh s') := fun N => ⟨QQ.out.c.c.drewN N, QQ.out.c.cw.drewN N, QQ.out.c.ch.drewN N, QQ.out.c.n1, QQ.out.c.n2, QQ.out.c.n3⟩
        have tN : ∀ N, (wC.drewN N).cell? ⟨r, 2, none⟩ = some (.int .i64 s'.t) := fun N => QQ.out.r.c.cell 2
        have n1 : (x != x) = false := by simp
        have n2 : (bb != bb) = false := by simp
        have n3 : (s'.t != s'.t) = false := by simp
        go_wp2_with fail
        go_quiet ((go_at_call 11; refine Calls.quiet_of_same ((time_any g gw gh _ _ (csN _) (few4 _ QQ.out.len).1 (few4 _ QQ.out.len).2).mono fun e w' h => ⟨h.1, h.2.symm⟩)))
        have QD : Hid (Two (wC.drewN nq) M g gw gh r rw' rh s') := ⟨(csN nq).out, ⟨QQ.out.r.c.drewN nq, QQ.out.r.cw.drewN nq, QQ.out.r.ch.drewN nq, QQ.out.r.n1, QQ.out.r.n2, QQ.out.r.n3⟩, QQ.out.len⟩
        have bD : Hid (Below w.heap.size w (wC.drewN nq)) := Below.drewN' bC.out nq
        clear csN tN QQ bC n1 n2 n3
        generalize wC.drewN nq = wD at QD bD ⊢
        go_wp2_with fail
        go_loopg [12] 4 (fun q2 s12 w' => ∃ j : Nat, j + q2 = 4 ∧ s12 = .int .i64 j ∧ Hid (Two w' M g gw gh r rw' rh s') ∧ Hid (Below w.heap.size w w'))
        case atStart => exact ⟨0, by omega, rfl, QD, bD⟩
        case round =>
          clear QD bD
          obtain ⟨j, hj, rfl, QE, bE⟩ := hrel
          by_cases h4 : j < 4
          · obtain ⟨q2, rfl⟩ : ∃ q2, gk = q2 + 1 := ⟨gk - 1, by omega⟩
            have csN : ∀ N, Hid (Cs (wr.drewN N) 51 g gw gh s') := fun N => ⟨QE.out.c.c.drewN N, QE.out.c.cw.drewN N, QE.out.c.ch.drewN N, QE.out.c.n1, QE.out.c.n2, QE.out.c.n3⟩
            have lw := QE.out.len.1
            have lh := QE.out.len.2
            have y0 : ∀ N, (wr.drewN N).cell? ⟨r, 0, none⟩ = some (.slice (some ⟨rw', 0, none⟩) 4 4) := fun N => by have := QE.out.r.c.cell 0; rw [lw] at this; exact this
            have y1 : ∀ N, (wr.drewN N).cell? ⟨r, 1, none⟩ = some (.slice (some ⟨rh, 0, none⟩) 3 3) := fun N => by have := QE.out.r.c.cell 1; rw [lh] at this; exact this
            have y2 : ∀ N, (wr.drewN N).cell? ⟨rw', j, none⟩ = some (.int .i64 (gI s'.ws j)) := fun N => blk_ints_cell QE.out.r.cw (by omega)
            have ep : Hid (peekF s' j = gI s'.ws j) := by show _ = _; unfold peekF; rw [inR_t (by omega) (by omega)]; simp
            have n1 : (gI s'.ws j != gI s'.ws j) = false := by simp
            have t4 : decide ((j : Int) < 4) = true := by simp; omega
            by_cases h3 : j < 3
            · have t3 : decide ((j : Int) < 3) = true := by simp; omega
              have y3 : ∀ N, (wr.drewN N).cell? ⟨rh, j, none⟩ = some (.int .i64 (gI s'.hs j)) := fun N => blk_ints_cell QE.out.r.ch (by omega)
              have eh : Hid (holdF s' j = gI s'.hs j) := by show _ = _; unfold holdF; rw [inR_t (by omega) (by omega)]; simp
              have n2 : (gI s'.hs j != gI s'.hs j) = false := by simp
              clear lw lh
              go_wp2_with fail
              go_quiet (first | (go_at_call 12; refine Calls.quiet_of_same (v := .int .i64 (gI s'.ws j)) ((peek_any g gw gh _ _ _ (csN _) (few4 _ QE.out.len).1 (few4 _ QE.out.len).2).mono fun e w' h => ⟨by rw [h.1, ep.out], h.2.symm⟩)) | (go_at_call 13; refine Calls.quiet_of_same (v := .int .i64 (gI s'.hs j)) ((holder_any g gw gh _ _ _ (csN _) (few4 _ QE.out.len).1 (few4 _ QE.out.len).2).mono fun e w' h => ⟨by rw [h.1, eh.out], h.2.symm⟩)))
              have QF : Hid (Two (wr.drewN nq) M g gw gh r rw' rh s') := ⟨(csN nq).out, ⟨QE.out.r.c.drewN nq, QE.out.r.cw.drewN nq, QE.out.r.ch.drewN nq, QE.out.r.n1, QE.out.r.n2, QE.out.r.n3⟩, QE.out.len⟩
              have bF : Hid (Below w.heap.size w (wr.drewN nq)) := Below.drewN' bE.out nq
              clear csN y0 y1 y2 y3 n1 n2 ep eh
              go_wp2_with fail
              go_roundg q2
              case measure => omega
              case rel => exact ⟨j + 1, by omega, by go_num, QF, bF⟩
            · have t3 : decide ((j : Int) < 3) = false := by simp; omega
              clear lw lh
              go_wp2_with fail
              go_quiet ((go_at_call 12; refine Calls.quiet_of_same (v := .int .i64 (gI s'.ws j)) ((peek_any g gw gh _ _ _ (csN _) (few4 _ QE.out.len).1 (few4 _ QE.out.len).2).mono fun e w' h => ⟨by rw [h.1, ep.out], h.2.symm⟩)))
              have QF : Hid (Two (wr.drewN nq) M g gw gh r rw' rh s') := ⟨(csN nq).out, ⟨QE.out.r.c.drewN nq, QE.out.r.cw.drewN nq, QE.out.r.ch.drewN nq, QE.out.r.n1, QE.out.r.n2, QE.out.r.n3⟩, QE.out.len⟩
              have bF : Hid (Below w.heap.size w (wr.drewN nq)) := Below.drewN' bE.out nq
              clear csN y0 y1 y2 n1 ep
              go_wp2_with fail
              go_roundg q2
              case measure => omega
              case rel => exact ⟨j + 1, by omega, by go_num, QF, bF⟩
          · have hj4 : j = 4 := by omega
            subst hj4
            go_wp2_with fail
            go_roundg q
            case measure => omega
            case rel => exact ⟨k + 1, s', by omega, by go_num, QE, bE⟩
      · have t1 : decide ((k : Int) < 300) = false := by simp; omega
        have csN : ∀ N, Hid (Cs (wr.drewN N) 51 g gw gh s) := fun N => ⟨hcs.out.c.c.drewN N, hcs.out.c.cw.drewN N, hcs.out.c.ch.drewN N, hcs.out.c.n1, hcs.out.c.n2, hcs.out.c.n3⟩
        have tN : ∀ N, (wr.drewN N).cell? ⟨r, 2, none⟩ = some (.int .i64 s.t) := fun N => hcs.out.r.c.cell 2
        have l1 := hcs.out.len
        have p1 : peekF s 4 = 0 := by unfold peekF; rw [inR_f (by omega)]; simp
        have p2 : peekF s (-1) = 0 := by unfold peekF; rw [inR_f (by omega)]; simp
        have p3 : holdF s 3 = -1 := by unfold holdF; rw [inR_f (by omega)]; simp
        have p4 : holdF s (-1) = -1 := by unfold holdF; rw [inR_f (by omega)]; simp
        have n3 : (s.t == s.t) = true := by simp
        clear l1
        go_wp2_with fail
        go_quiet (first | (go_at_call 12; refine Calls.quiet_of_same ((peek_any g gw gh _ _ _ (csN _) (few4 _ hcs.out.len).1 (few4 _ hcs.out.len).2).mono fun e w' h => ⟨h.1, h.2.symm⟩)) | (go_at_call 13; refine Calls.quiet_of_same ((holder_any g gw gh _ _ _ (csN _) (few4 _ hcs.out.len).1 (few4 _ hcs.out.len).2).mono fun e w' h => ⟨h.1, h.2.symm⟩)) | (go_at_call 11; refine Calls.quiet_of_same ((time_any g gw gh _ _ (csN _) (few4 _ hcs.out.len).1 (few4 _ hcs.out.len).2).mono fun e w' h => ⟨h.1, h.2.symm⟩)))
        go_wp2_with fail
        go_ret
        exact madeB_mk rfl (Below.drewN' hbel.out _)
    · have t0 : decide ((k : Int) < (n : Int)) = false := by simp; omega
      have csN : ∀ N, Hid (Cs (wr.drewN N) 51 g gw gh s) := fun N => ⟨hcs.out.c.c.drewN N, hcs.out.c.cw.drewN N, hcs.out.c.ch.drewN N, hcs.out.c.n1, hcs.out.c.n2, hcs.out.c.n3⟩
      have tN : ∀ N, (wr.drewN N).cell? ⟨r, 2, none⟩ = some (.int .i64 s.t) := fun N => hcs.out.r.c.cell 2
      have l1 := hcs.out.len
      have p1 : peekF s 4 = 0 := by unfold peekF; rw [inR_f (by omega)]; simp
      have p2 : peekF s (-1) = 0 := by unfold peekF; rw [inR_f (by omega)]; simp
      have p3 : holdF s 3 = -1 := by unfold holdF; rw [inR_f (by omega)]; simp
      have p4 : holdF s (-1) = -1 := by unfold holdF; rw [inR_f (by omega)]; simp
      have n3 : (s.t == s.t) = true := by simp
      clear l1
      go_wp2_with fail
      go_quiet (first | (go_at_call 12; refine Calls.quiet_of_same ((peek_any g gw gh _ _ _ (csN _) (few4 _ hcs.out.len).1 (few4 _ hcs.out.len).2).mono fun e w' h => ⟨h.1, h.2.symm⟩)) | (go_at_call 13; refine Calls.quiet_of_same ((holder_any g gw gh _ _ _ (csN _) (few4 _ hcs.out.len).1 (few4 _ hcs.out.len).2).mono fun e w' h => ⟨h.1, h.2.symm⟩)) | (go_at_call 11; refine Calls.quiet_of_same ((time_any g gw gh _ _ (csN _) (few4 _ hcs.out.len).1 (few4 _ hcs.out.len).2).mono fun e w' h => ⟨h.1, h.2.symm⟩)))
      go_wp2_with fail
      go_ret
      exact madeB_mk rfl (Below.drewN' hbel.out _)

set_option maxRecDepth 100000 in
theorem lifted (os : Os) (started : os.Started) (H : Type) (enc : TypeId × Value → H) :
    ReturnsInHanded {} Try.checked os 3 .any (Rows.cellsActsSpec.pre6 enc Try.prog Try.f3 Rows.cellsActsRow.domain false) (Rows.cellsActsSpec.post enc Try.prog Try.f3 false true false false) := by
  refine returnsInHanded_of_change (C := Try.checked) own started (by kernel_rfl) Try.func3
    (ChangeSpec.witness6 (enc := enc) (C := Try.checked) false ⟨#[], #[.slice none 0 0], []⟩ 8 (by kernel_rfl) (by kernel_rfl) (by kernel_rfl) (by kernel_rfl)) ?_
  intro W base args ds gs before hval0 hW hcnd _
  have hval : ∀ (j : Nat) t v, Try.f3.params[j]? = some t → args[j]? = some v → Value.okWide Try.prog W .any base t v := hval0
  have hW' := hW
  obtain ⟨p, q, hA0, hV, rfl, hfz, hnd⟩ := hW
  have hA : DataW.TrodAll enc Try.prog W 0 (fun _ => true) true Try.f3.params.toList args.toList ds p := hA0
  rw [Try.params3] at hA hval
  obtain ⟨v0, d0, rfl, rfl, h0⟩ := trodAll_one hA
  obtain ⟨A0, n0, c0, rfl⟩ := okWide_slice Try.underlying22 (hval 0 _ v0 rfl rfl)
  obtain ⟨fu, h0'⟩ := h0
  obtain ⟨A, n, c, hv, hlc, hcm, hl⟩ := open_fives (v := .slice A0 n0 c0) Try.underlying22 Try.underlying31 (by kernel_rfl) rfl rfl rfl rfl rfl (by kernel_rfl) (by kernel_rfl) (by kernel_rfl) (by kernel_rfl) (by kernel_rfl) Try.underlying3 Try.underlying3 Try.underlying3 Try.underlying2 Try.underlying2 h0'
  cases hv
  refine (inner2 A0 n0 c0 W hlc (by unfold maxLen at hcm; omega) hl).mono fun e W' ⟨he, hb⟩ => ?_
  subst he
  exact ⟨_, rfl, law_post hW' rfl rfl rfl rfl (by kernel_rfl) Try.underlying4 (by rw [Try.params3]; simp only [List.mem_cons, List.not_mem_nil, or_false, forall_eq]; exact ⟨by kernel_rfl, of_decide_eq_true (by kernel_rfl)⟩) laidOut hb⟩

theorem over : Rows.cellsActsRow.holds Try.pinned (OpenSpec.ofChange Rows.cellsActsSpec) :=
  OpenClaim.holds_of_wide 3 Try.f3 rfl rfl rfl rfl rfl rfl rfl ⟨rfl, rfl, rfl, rfl, rfl⟩ rfl rfl rfl rfl rfl (by kernel_rfl) Try.func3 (by kernel_rfl)
    (of_decide_eq_true (by kernel_rfl)) (by unfold Func.isWrapper; first | (rw [if_pos (by decide +kernel)]; kernel_rfl) | (rw [if_neg (by decide +kernel)]; exact ⟨rfl, rfl⟩))
    (fun os started H enc _ => lifted os started H enc)

theorem proved : Rows.CellsActsSaid := over
#print axioms proved
end Go.Proofs.Ytbpfeokheebmdaa.cellsActs
