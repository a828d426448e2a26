/- Contract: the reference's Decode, as a plain function of the bytes says. Condition: the bytes lie in memory. -/
import Derived.Test.YtebnjhfmlihjcaaWfi
import Derived.Test.YtebnjhfmlihjcaaWrk
namespace Go.Proofs.Ytebnjhfmlihjcaa.Wrf
set_option maxRecDepth 100000
open Go.ChangeShapes Go.WideShapes Go.ChangeAt Go.RowKit Mem Tre Ref3 Law3 Fix3 CrdB CrdC Rr4 Wpl Wmr Wrt St7 Rul6 Wen Wtk Wrd Wfi Wrk
set_option linter.unusedVariables false
set_option linter.unusedSimpArgs false

/-- the first message of bytes: what the reference's reader takes of them -/
def FirQ (l : List UInt8) (m : M) (l' : List UInt8) (bad : Bool) : Prop :=
  ∃ r0 : Int × List UInt8 × Bool, r0 = rakS 1 l false ∧
  ((r0.1 = 0 ∧ ∃ r1 r2 r3 r4 r5 r6 r7, r1 = rakS 2 r0.2.1 r0.2.2 ∧ r2 = rakS 2 r1.2.1 r1.2.2 ∧ r3 = rakS 1 r2.2.1 r2.2.2 ∧ r4 = rakS 8 r3.2.1 (r3.2.2 || decide (1 < r3.1)) ∧ r5 = rakS 8 r4.2.1 r4.2.2 ∧ r6 = rakS 8 r5.2.1 r5.2.2 ∧ r7 = rakS 8 r6.2.1 r6.2.2 ∧ m = ⟨r0.1, r1.1, r2.1, r3.1 == 1, r4.1, r5.1, r6.1, r7.1, 0, 0, 0, 0⟩ ∧ l' = r7.2.1 ∧ bad = r7.2.2) ∨
   ((r0.1 = 1 ∨ r0.1 = 3) ∧ ∃ r1, r1 = rakS 4 r0.2.1 r0.2.2 ∧ m = ⟨r0.1, 0, 0, false, 0, 0, 0, 0, r1.1, 0, 0, 0⟩ ∧ l' = r1.2.1 ∧ bad = r1.2.2) ∨
   (r0.1 = 2 ∧ ∃ r1 r2, r1 = rakS 4 r0.2.1 r0.2.2 ∧ r2 = rakS 8 r1.2.1 r1.2.2 ∧ m = ⟨r0.1, 0, 0, false, 0, 0, 0, 0, r1.1, r2.1, 0, 0⟩ ∧ l' = r2.2.1 ∧ bad = r2.2.2) ∨
   (r0.1 = 6 ∧ ∃ r1 r2, r1 = rakS 2 r0.2.1 r0.2.2 ∧ r2 = rakS 8 r1.2.1 r1.2.2 ∧ m = ⟨r0.1, 0, 0, false, 0, 0, 0, 0, 0, 0, r1.1, r2.1⟩ ∧ l' = r2.2.1 ∧ bad = r2.2.2) ∨
   ((r0.1 ≠ 0 ∧ r0.1 ≠ 1 ∧ r0.1 ≠ 3 ∧ r0.1 ≠ 2 ∧ r0.1 ≠ 6) ∧ m = ⟨r0.1, 0, 0, false, 0, 0, 0, 0, 0, 0, 0, 0⟩ ∧ l' = r0.2.1 ∧ bad = r0.2.2))
def MadeRq (l : List UInt8) (w : World) (e : Ending) (w' : World) : Prop :=
  ∃ m l' bad, FirQ l m l' bad ∧ (((bad = true ∨ 6 < m.k) ∧ e = .returned (.tuple #[mvl m0, .int .i64 0])) ∨ ((bad = false ∧ m.k ≤ 6) ∧ e = .returned (.tuple #[mvl m, .int .i64 ((l.length : Int) - l'.length)]))) ∧ Below w.heap.size w w'
structure Fsq (B : Nat) (w W : World) (gD gR gM : Nat) (cs : Array Value) (l : List UInt8) (bad : Bool) : Prop where
  rdr : Rdr W gD B 94 l bad
  var : Blk W gM 25 cs
  res : Blk W gR 25 #[.int .i64 0, .int .i64 0, .int .i64 0, .bool false, .int .i64 0, .int .i64 0, .int .i64 0, .int .i64 0, .int .i64 0, .int .i64 0, .int .i64 0, .int .i64 0]
  bl : Below w.heap.size w W
  h1 : gR = w.heap.size
  h2 : gR < gD
  h3 : gD < gM
  h4 : B ≤ w.heap.size
theorem Fsq.step {B : Nat} {w W W' : World} {gD gR gM : Nat} {cs : Array Value} {l l' : List UInt8} {bad bad' : Bool} (h : Fsq B w W gD gR gM cs l bad) (hr : Rdr W' gD B 94 l' bad') (hg : W.grownBy W' (some gD)) : Fsq B w W' gD gR gM cs l' bad' :=
  ⟨hr, Blk_grown h.var hg (by have := h.h3; intro e; have := Option.some.inj e; omega), Blk_grown h.res hg (by have := h.h2; intro e; have := Option.some.inj e; omega), h.bl.grown hg h.bl.size (fun k hk => by have := Option.some.inj hk; have := h.h1; have := h.h2; omega), h.h1, h.h2, h.h3, h.h4⟩
theorem Fsq.put {B : Nat} {w W : World} {gD gR gM : Nat} {cs : Array Value} {l : List UInt8} {bad : Bool} (h : Fsq B w W gD gR gM cs l bad) (i : Nat) (v : Value) : Fsq B w (W.setCell ⟨gM, i, none⟩ v) gD gR gM (cs.setIfInBounds i v) l bad :=
  ⟨h.rdr.far h.h3 v, blk_set h.var i v, blk_far h.res (by have := h.h2; have := h.h3; show gR ≠ gM; omega) v, h.bl.setCell (p := ⟨gM, i, none⟩) (by have := h.h1; have := h.h2; have := h.h3; show w.heap.size ≤ gM; omega) v, h.h1, h.h2, h.h3, h.h4⟩
theorem Fsq.bad {B : Nat} {w W : World} {gD gR gM : Nat} {cs : Array Value} {l : List UInt8} {bad : Bool} (h : Fsq B w W gD gR gM cs l bad) (b : Bool) : Fsq B w (W.setCell ⟨gD, 1, none⟩ (.bool b)) gD gR gM cs l b := by
  obtain ⟨A, c, hb, hB, hby, r⟩ := h.rdr
  exact ⟨⟨A, c, blk_set hb 1 _, hB, by_set hby hB _, r⟩, blk_far h.var (by have := h.h3; show gM ≠ gD; omega) _, blk_far h.res (by have := h.h2; show gR ≠ gD; omega) _, h.bl.setCell (p := ⟨gD, 1, none⟩) (by have := h.h1; have := h.h2; show w.heap.size ≤ gD; omega) _, h.h1, h.h2, h.h3, h.h4⟩
set_option maxHeartbeats 16000000 in
theorem rdecode_any (A : Option Addr) (c : Nat) (l : List UInt8) (w : World) (hl : l.length ≤ 1000000) (hlc : l.length ≤ c) (hc : (c : Int) ≤ 9223372036854775807) (hr : Hid (By w w.heap.size A l)) :
    Calls Try.prog 15 #[.slice A l.length c] w (MadeRq l w) := by
  have k0 : Hid (Rdr ((w.alloc (.cells #[.int .i64 0, .int .i64 0, .int .i64 0, .bool false, .int .i64 0, .int .i64 0, .int .i64 0, .int .i64 0, .int .i64 0, .int .i64 0, .int .i64 0, .int .i64 0] 25)).alloc (.cells #[.slice A l.length c, .bool false] 94)) (w.heap.size + 1) w.heap.size 94 l false) := ⟨A, c, blk_at (by simp), by omega, Rd.keep hr.out (fun p hp => by rw [World.cell?_alloc_lt _ _ _ (by simp; omega), World.cell?_alloc_lt _ _ _ (by omega)]), hlc, hc, hl⟩
  have z0 : Hid (Blk ((w.alloc (.cells #[.int .i64 0, .int .i64 0, .int .i64 0, .bool false, .int .i64 0, .int .i64 0, .int .i64 0, .int .i64 0, .int .i64 0, .int .i64 0, .int .i64 0, .int .i64 0] 25)).alloc (.cells #[.slice A l.length c, .bool false] 94)) w.heap.size 25 #[.int .i64 0, .int .i64 0, .int .i64 0, .bool false, .int .i64 0, .int .i64 0, .int .i64 0, .int .i64 0, .int .i64 0, .int .i64 0, .int .i64 0, .int .i64 0]) := (Blk.fresh w _ _).alloc _
  have b0 : Hid (Below w.heap.size w ((w.alloc (.cells #[.int .i64 0, .int .i64 0, .int .i64 0, .bool false, .int .i64 0, .int .i64 0, .int .i64 0, .int .i64 0, .int .i64 0, .int .i64 0, .int .i64 0, .int .i64 0] 25)).alloc (.cells #[.slice A l.length c, .bool false] 94))) := ((Below.refl _ _).alloc (Nat.le_refl _) _).alloc (by simp) _
  go_enter Try.func15, Try.ntmps15
  go_upto_region 2 with fail
  generalize ((w.alloc (.cells #[.int .i64 0, .int .i64 0, .int .i64 0, .bool false, .int .i64 0, .int .i64 0, .int .i64 0, .int .i64 0, .int .i64 0, .int .i64 0, .int .i64 0, .int .i64 0] 25)).alloc (.cells #[.slice A l.length c, .bool false] 94)) = W0 at k0 z0 b0 ⊢
  go_wp2_with fail
  refine (rtake_r (w.heap.size + 1) w.heap.size l false 1 _ (by omega) (by omega) k0.out).mono ?_
  rintro e w1 ⟨rfl, r1, g1⟩
  generalize ht1 : rakS 1 l false = T1 at r1 ⊢
  have HT1 := Lib.hid ht1
  obtain ⟨v0, l1, b1⟩ := T1
  have M0 : Hid (Fsq w.heap.size w (w1.alloc (.cells #[.int .i64 v0, .int .i64 0, .int .i64 0, .bool false, .int .i64 0, .int .i64 0, .int .i64 0, .int .i64 0, .int .i64 0, .int .i64 0, .int .i64 0, .int .i64 0] 25)) (w.heap.size + 1) w.heap.size w1.heap.size #[.int .i64 v0, .int .i64 0, .int .i64 0, .bool false, .int .i64 0, .int .i64 0, .int .i64 0, .int .i64 0, .int .i64 0, .int .i64 0, .int .i64 0, .int .i64 0] l1 b1) := by
    obtain ⟨A', c', hb, hBd, hby, r⟩ := r1
    have hlt := hb.lt
    refine ⟨⟨A', c', hb.alloc _, hBd, Rd.keep hby (fun p hp => World.cell?_alloc_lt _ _ _ (by omega)), r⟩, Blk.fresh _ _ _, (Blk_grown z0.out g1 (by intro e; have := Option.some.inj e; omega)).alloc _, ?_, rfl, by omega, hlt, Nat.le_refl _⟩
    have hb2 : Below w.heap.size w w1 := b0.out.grown g1 b0.out.size (fun k hk => by have := Option.some.inj hk; omega)
    exact hb2.alloc hb2.size _
  clear ht1 r1 g1 k0 z0 b0
  go_upto_region 3 with fail
  generalize w1.alloc (.cells #[.int .i64 v0, .int .i64 0, .int .i64 0, .bool false, .int .i64 0, .int .i64 0, .int .i64 0, .int .i64 0, .int .i64 0, .int .i64 0, .int .i64 0, .int .i64 0] 25) = w2 at M0 ⊢
  generalize w1.heap.size = gM at M0 ⊢
  generalize w.heap.size + 1 = gD at M0 ⊢
  generalize hgr : w.heap.size = gR at M0 ⊢
  have HG := Lib.hid hgr
  clear hgr
  obtain ⟨j0, j1, j2, j3, j4, j5, j6, j7, j8, j9, j10, j11⟩ := c12_of M0.out.var
  by_cases k0 : v0 = 0
  · have q0 : (v0 == 0) = true := beq_iff_eq.2 k0
    have KK := Lib.hid k0
    clear k0
    go_wp2_with fail
    refine (rtake_r gD gR l1 b1 2 _ (by omega) (by omega) M0.out.rdr).mono ?_
    rintro e w3 ⟨rfl, r3, g3⟩
    generalize ht3 : rakS 2 l1 b1 = T3 at r3 ⊢
    have HT3 := Lib.hid ht3
    obtain ⟨v3, l3, b3⟩ := T3
    have M1 : Hid (Fsq gR w w3 gD gR gM #[.int .i64 v0, .int .i64 0, .int .i64 0, .bool false, .int .i64 0, .int .i64 0, .int .i64 0, .int .i64 0, .int .i64 0, .int .i64 0, .int .i64 0, .int .i64 0] l3 b3) := M0.out.step r3 g3
    clear r3 g3 ht3 M0
    go_wp2_with fail
    refine (rtake_r gD gR l3 b3 2 _ (by omega) (by omega) M1.out.rdr).mono ?_
    rintro e w4 ⟨rfl, r4, g4⟩
    generalize ht4 : rakS 2 l3 b3 = T4 at r4 ⊢
    have HT4 := Lib.hid ht4
    obtain ⟨v4, l4, b4⟩ := T4
    have M2 : Hid (Fsq gR w w4 gD gR gM #[.int .i64 v0, .int .i64 0, .int .i64 0, .bool false, .int .i64 0, .int .i64 0, .int .i64 0, .int .i64 0, .int .i64 0, .int .i64 0, .int .i64 0, .int .i64 0] l4 b4) := M1.out.step r4 g4
    clear r4 g4 ht4 M1
    have z8 := M2.out.var.cell 1
    have y8 := M2.out.var.thaw 1
    simp only [List.getElem?_toArray, List.getElem?_cons_zero, List.getElem?_cons_succ] at z8
    have z9 := M2.out.var.cell 2
    have y9 := M2.out.var.thaw 2
    simp only [List.getElem?_toArray, List.getElem?_cons_zero, List.getElem?_cons_succ] at z9
    have M3 : Hid (Fsq gR w (w4.setCell ⟨gM, 1, none⟩ (.int .i64 v3)) gD gR gM #[.int .i64 v0, .int .i64 v3, .int .i64 0, .bool false, .int .i64 0, .int .i64 0, .int .i64 0, .int .i64 0, .int .i64 0, .int .i64 0, .int .i64 0, .int .i64 0] l4 b4) := M2.out.put 1 _
    have M4 : Hid (Fsq gR w ((w4.setCell ⟨gM, 1, none⟩ (.int .i64 v3)).setCell ⟨gM, 2, none⟩ (.int .i64 v4)) gD gR gM #[.int .i64 v0, .int .i64 v3, .int .i64 v4, .bool false, .int .i64 0, .int .i64 0, .int .i64 0, .int .i64 0, .int .i64 0, .int .i64 0, .int .i64 0, .int .i64 0] l4 b4) := M3.out.put 2 _
    clear M2 M3
    go_wp2_with fail
    refine (rtake_r gD gR l4 b4 1 _ (by omega) (by omega) M4.out.rdr).mono ?_
    rintro e w5 ⟨rfl, r5, g5⟩
    generalize ht5 : rakS 1 l4 b4 = T5 at r5 ⊢
    have HT5 := Lib.hid ht5
    obtain ⟨v5, l5, b5⟩ := T5
    have M5 : Hid (Fsq gR w w5 gD gR gM #[.int .i64 v0, .int .i64 v3, .int .i64 v4, .bool false, .int .i64 0, .int .i64 0, .int .i64 0, .int .i64 0, .int .i64 0, .int .i64 0, .int .i64 0, .int .i64 0] l5 b5) := M4.out.step r5 g5
    clear r5 g5 ht5 M4
    clear z8 z9 y8 y9
    go_upto_region 7 with fail
    go_cut [6] (fun s6 wx => s6 = .int .i64 v5 ∧ Hid (Fsq gR w wx gD gR gM #[.int .i64 v0, .int .i64 v3, .int .i64 v4, .bool false, .int .i64 0, .int .i64 0, .int .i64 0, .int .i64 0, .int .i64 0, .int .i64 0, .int .i64 0, .int .i64 0] l5 (b5 || decide (1 < v5))))
    case first =>
      obtain ⟨A5, c5, hb5, hB5, hby5, hlc5, hc5, hl5⟩ := M5.out.rdr
      have e1 : w5.cell? ⟨gD, 1, none⟩ = some (.bool b5) := hb5.cell 1
      have e2 : w5.frozen? ⟨gD, 1, none⟩ = false := hb5.thaw 1
      cases b5
      · go_wp2_with fail
        go_meet
        exact ⟨rfl, M5.out.bad _⟩
      · go_wp2_with fail
        go_meet
        exact ⟨rfl, M5.out.bad _⟩
    case rest =>
      obtain ⟨rfl, M6⟩ := hcut
      rename World => w6
      clear M5
      generalize hb6 : (b5 || decide (1 < v5)) = b6 at M6
      have HB6 := Lib.hid hb6
      clear hb6
      have z8 := M6.out.var.cell 3
      have y8 := M6.out.var.thaw 3
      simp only [List.getElem?_toArray, List.getElem?_cons_zero, List.getElem?_cons_succ] at z8
      have M7 : Hid (Fsq gR w (w6.setCell ⟨gM, 3, none⟩ (.bool (v5 == 1))) gD gR gM #[.int .i64 v0, .int .i64 v3, .int .i64 v4, .bool (v5 == 1), .int .i64 0, .int .i64 0, .int .i64 0, .int .i64 0, .int .i64 0, .int .i64 0, .int .i64 0, .int .i64 0] l5 b6) := M6.out.put 3 _
      clear M6
      go_wp2_with fail
      refine (rtake_r gD gR l5 b6 8 _ (by omega) (by omega) M7.out.rdr).mono ?_
      rintro e w8 ⟨rfl, r8, g8⟩
      generalize ht8 : rakS 8 l5 b6 = T8 at r8 ⊢
      have HT8 := Lib.hid ht8
      obtain ⟨v8, l8, b8⟩ := T8
      have M8 : Hid (Fsq gR w w8 gD gR gM #[.int .i64 v0, .int .i64 v3, .int .i64 v4, .bool (v5 == 1), .int .i64 0, .int .i64 0, .int .i64 0, .int .i64 0, .int .i64 0, .int .i64 0, .int .i64 0, .int .i64 0] l8 b8) := M7.out.step r8 g8
      clear r8 g8 ht8 M7
      clear z8 y8
      go_wp2_with fail
      refine (rtake_r gD gR l8 b8 8 _ (by omega) (by omega) M8.out.rdr).mono ?_
      rintro e w9 ⟨rfl, r9, g9⟩
      generalize ht9 : rakS 8 l8 b8 = T9 at r9 ⊢
      have HT9 := Lib.hid ht9
      obtain ⟨v9, l9, b9⟩ := T9
      have M9 : Hid (Fsq gR w w9 gD gR gM #[.int .i64 v0, .int .i64 v3, .int .i64 v4, .bool (v5 == 1), .int .i64 0, .int .i64 0, .int .i64 0, .int .i64 0, .int .i64 0, .int .i64 0, .int .i64 0, .int .i64 0] l9 b9) := M8.out.step r9 g9
      clear r9 g9 ht9 M8
      go_wp2_with fail
      refine (rtake_r gD gR l9 b9 8 _ (by omega) (by omega) M9.out.rdr).mono ?_
      rintro e w10 ⟨rfl, r10, g10⟩
      generalize ht10 : rakS 8 l9 b9 = T10 at r10 ⊢
      have HT10 := Lib.hid ht10
      obtain ⟨v10, l10, b10⟩ := T10
      have M10 : Hid (Fsq gR w w10 gD gR gM #[.int .i64 v0, .int .i64 v3, .int .i64 v4, .bool (v5 == 1), .int .i64 0, .int .i64 0, .int .i64 0, .int .i64 0, .int .i64 0, .int .i64 0, .int .i64 0, .int .i64 0] l10 b10) := M9.out.step r10 g10
      clear r10 g10 ht10 M9
      go_wp2_with fail
      refine (rtake_r gD gR l10 b10 8 _ (by omega) (by omega) M10.out.rdr).mono ?_
      rintro e w11 ⟨rfl, r11, g11⟩
      generalize ht11 : rakS 8 l10 b10 = T11 at r11 ⊢
      have HT11 := Lib.hid ht11
      obtain ⟨v11, l11, b11⟩ := T11
      have M11 : Hid (Fsq gR w w11 gD gR gM #[.int .i64 v0, .int .i64 v3, .int .i64 v4, .bool (v5 == 1), .int .i64 0, .int .i64 0, .int .i64 0, .int .i64 0, .int .i64 0, .int .i64 0, .int .i64 0, .int .i64 0] l11 b11) := M10.out.step r11 g11
      clear r11 g11 ht11 M10
      have z4 := M11.out.var.cell 4
      have y4 := M11.out.var.thaw 4
      simp only [List.getElem?_toArray, List.getElem?_cons_zero, List.getElem?_cons_succ] at z4
      have z5 := M11.out.var.cell 5
      have y5 := M11.out.var.thaw 5
      simp only [List.getElem?_toArray, List.getElem?_cons_zero, List.getElem?_cons_succ] at z5
      have z6 := M11.out.var.cell 6
      have y6 := M11.out.var.thaw 6
      simp only [List.getElem?_toArray, List.getElem?_cons_zero, List.getElem?_cons_succ] at z6
      have z7 := M11.out.var.cell 7
      have y7 := M11.out.var.thaw 7
      simp only [List.getElem?_toArray, List.getElem?_cons_zero, List.getElem?_cons_succ] at z7
      have M12 : Hid (Fsq gR w (w11.setCell ⟨gM, 4, none⟩ (.int .i64 v8)) gD gR gM #[.int .i64 v0, .int .i64 v3, .int .i64 v4, .bool (v5 == 1), .int .i64 v8, .int .i64 0, .int .i64 0, .int .i64 0, .int .i64 0, .int .i64 0, .int .i64 0, .int .i64 0] l11 b11) := M11.out.put 4 _
      have M13 : Hid (Fsq gR w ((w11.setCell ⟨gM, 4, none⟩ (.int .i64 v8)).setCell ⟨gM, 5, none⟩ (.int .i64 v9)) gD gR gM #[.int .i64 v0, .int .i64 v3, .int .i64 v4, .bool (v5 == 1), .int .i64 v8, .int .i64 v9, .int .i64 0, .int .i64 0, .int .i64 0, .int .i64 0, .int .i64 0, .int .i64 0] l11 b11) := M12.out.put 5 _
      have M14 : Hid (Fsq gR w (((w11.setCell ⟨gM, 4, none⟩ (.int .i64 v8)).setCell ⟨gM, 5, none⟩ (.int .i64 v9)).setCell ⟨gM, 6, none⟩ (.int .i64 v10)) gD gR gM #[.int .i64 v0, .int .i64 v3, .int .i64 v4, .bool (v5 == 1), .int .i64 v8, .int .i64 v9, .int .i64 v10, .int .i64 0, .int .i64 0, .int .i64 0, .int .i64 0, .int .i64 0] l11 b11) := M13.out.put 6 _
      have M15 : Hid (Fsq gR w ((((w11.setCell ⟨gM, 4, none⟩ (.int .i64 v8)).setCell ⟨gM, 5, none⟩ (.int .i64 v9)).setCell ⟨gM, 6, none⟩ (.int .i64 v10)).setCell ⟨gM, 7, none⟩ (.int .i64 v11)) gD gR gM #[.int .i64 v0, .int .i64 v3, .int .i64 v4, .bool (v5 == 1), .int .i64 v8, .int .i64 v9, .int .i64 v10, .int .i64 v11, .int .i64 0, .int .i64 0, .int .i64 0, .int .i64 0] l11 b11) := M14.out.put 7 _
      clear M11 M12 M13 M14
      have HQ8 : Hid ((v8, l8, b8) = rakS 8 l5 (b5 || decide (1 < v5))) := by show _ = _; rw [HB6.out]; exact HT8.out.symm
      have hQ : Hid (FirQ l ⟨v0, v3, v4, (v5 == 1), v8, v9, v10, v11, 0, 0, 0, 0⟩ l11 b11) := ⟨_, HT1.out.symm, .inl ⟨KK.out, (v3, l3, b3), (v4, l4, b4), (v5, l5, b5), (v8, l8, b8), (v9, l9, b9), (v10, l10, b10), (v11, l11, b11), HT3.out.symm, HT4.out.symm, HT5.out.symm, HQ8.out, HT9.out.symm, HT10.out.symm, HT11.out.symm, rfl, rfl, rfl⟩⟩
      go_upto_region 17 with fail
      generalize ((((w11.setCell ⟨gM, 4, none⟩ (.int .i64 v8)).setCell ⟨gM, 5, none⟩ (.int .i64 v9)).setCell ⟨gM, 6, none⟩ (.int .i64 v10)).setCell ⟨gM, 7, none⟩ (.int .i64 v11)) = wF at M15 ⊢
      obtain ⟨A5, c5, hb5, hB5, hby5, hlc5, hc5, hl5⟩ := M15.out.rdr
      have e0 : wF.cell? ⟨gD, 0, none⟩ = some (.slice A5 l11.length c5) := hb5.cell 0
      have e1 : wF.cell? ⟨gD, 1, none⟩ = some (.bool b11) := hb5.cell 1
      obtain ⟨j0, j1, j2, j3, j4, j5, j6, j7, j8, j9, j10, j11⟩ := c12_of M15.out.var
      obtain ⟨z0, z1, z2, z3, z4, z5, z6, z7, z8, z9, z10, z11, y0, y1, y2, y3, y4, y5, y6, y7, y8, y9, y10, y11⟩ := z12_of M15.out.res
      have n1 : gR ≠ gD := by have := M15.out.h2; omega
      have n2 : gD ≠ gR := by have := M15.out.h2; omega
      have n3 : gR ≠ gM := by have := M15.out.h2; have := M15.out.h3; omega
      have n4 : gM ≠ gR := by have := M15.out.h2; have := M15.out.h3; omega
      by_cases hbb : b11 = true
      · have hbb' : Hid (b11 = true) := hbb
        rw [hbb] at e1
        clear hbb
        have f2 : Below w.heap.size w (st12 wF gR (.int .i64 0) (.int .i64 0) (.int .i64 0) (.bool false) (.int .i64 0) (.int .i64 0) (.int .i64 0) (.int .i64 0) (.int .i64 0) (.int .i64 0) (.int .i64 0) (.int .i64 0)) := st12_below M15.out.bl (by rw [HG.out]; omega)
        have f3 : Blk (st12 wF gR (.int .i64 0) (.int .i64 0) (.int .i64 0) (.bool false) (.int .i64 0) (.int .i64 0) (.int .i64 0) (.int .i64 0) (.int .i64 0) (.int .i64 0) (.int .i64 0) (.int .i64 0)) gR 25 #[.int .i64 0, .int .i64 0, .int .i64 0, .bool false, .int .i64 0, .int .i64 0, .int .i64 0, .int .i64 0, .int .i64 0, .int .i64 0, .int .i64 0, .int .i64 0] := st12_blk M15.out.res
        have hfin : MadeRq l w (.returned (.tuple #[.agg #[.int .i64 0, .int .i64 0, .int .i64 0, .bool false, .int .i64 0, .int .i64 0, .int .i64 0, .int .i64 0, .int .i64 0, .int .i64 0, .int .i64 0, .int .i64 0], .int .i64 0])) (st12 wF gR (.int .i64 0) (.int .i64 0) (.int .i64 0) (.bool false) (.int .i64 0) (.int .i64 0) (.int .i64 0) (.int .i64 0) (.int .i64 0) (.int .i64 0) (.int .i64 0) (.int .i64 0)) := ⟨_, _, _, hQ.out, .inl ⟨.inl hbb'.out, rfl⟩, f2⟩
        clear f2
        go_wp2_with fail
        obtain ⟨d0, d1, d2, d3, d4, d5, d6, d7, d8, d9, d10, d11⟩ := c12_of f3
        unfold st12 at d0 d1 d2 d3 d4 d5 d6 d7 d8 d9 d10 d11 hfin
        exact bodyPost_ret (v := .tuple #[.agg #[.int .i64 0, .int .i64 0, .int .i64 0, .bool false, .int .i64 0, .int .i64 0, .int .i64 0, .int .i64 0, .int .i64 0, .int .i64 0, .int .i64 0, .int .i64 0], .int .i64 0]) (by simp [results, Try.results15, go_sem, d0, d1, d2, d3, d4, d5, d6, d7, d8, d9, d10, d11]) rfl hfin
      have hbf : b11 = false := by simpa using hbb
      have HBF := Lib.hid hbf
      rw [hbf] at e1
      clear hbb hbf
      by_cases h6 : 6 < v0
      · have t6 : decide (6 < v0) = true := decide_eq_true h6
        have h6' : Hid (6 < v0) := h6
        clear h6
        have f2 : Below w.heap.size w (st12 wF gR (.int .i64 0) (.int .i64 0) (.int .i64 0) (.bool false) (.int .i64 0) (.int .i64 0) (.int .i64 0) (.int .i64 0) (.int .i64 0) (.int .i64 0) (.int .i64 0) (.int .i64 0)) := st12_below M15.out.bl (by rw [HG.out]; omega)
        have f3 : Blk (st12 wF gR (.int .i64 0) (.int .i64 0) (.int .i64 0) (.bool false) (.int .i64 0) (.int .i64 0) (.int .i64 0) (.int .i64 0) (.int .i64 0) (.int .i64 0) (.int .i64 0) (.int .i64 0)) gR 25 #[.int .i64 0, .int .i64 0, .int .i64 0, .bool false, .int .i64 0, .int .i64 0, .int .i64 0, .int .i64 0, .int .i64 0, .int .i64 0, .int .i64 0, .int .i64 0] := st12_blk M15.out.res
        have hfin : MadeRq l w (.returned (.tuple #[.agg #[.int .i64 0, .int .i64 0, .int .i64 0, .bool false, .int .i64 0, .int .i64 0, .int .i64 0, .int .i64 0, .int .i64 0, .int .i64 0, .int .i64 0, .int .i64 0], .int .i64 0])) (st12 wF gR (.int .i64 0) (.int .i64 0) (.int .i64 0) (.bool false) (.int .i64 0) (.int .i64 0) (.int .i64 0) (.int .i64 0) (.int .i64 0) (.int .i64 0) (.int .i64 0) (.int .i64 0)) := ⟨_, _, _, hQ.out, .inl ⟨.inr h6'.out, rfl⟩, f2⟩
        clear f2
        go_wp2_with fail
        obtain ⟨d0, d1, d2, d3, d4, d5, d6, d7, d8, d9, d10, d11⟩ := c12_of f3
        unfold st12 at d0 d1 d2 d3 d4 d5 d6 d7 d8 d9 d10 d11 hfin
        exact bodyPost_ret (v := .tuple #[.agg #[.int .i64 0, .int .i64 0, .int .i64 0, .bool false, .int .i64 0, .int .i64 0, .int .i64 0, .int .i64 0, .int .i64 0, .int .i64 0, .int .i64 0, .int .i64 0], .int .i64 0]) (by simp [results, Try.results15, go_sem, d0, d1, d2, d3, d4, d5, d6, d7, d8, d9, d10, d11]) rfl hfin
      have t6 : decide (6 < v0) = false := decide_eq_false h6
      have h6' : Hid (v0 ≤ 6) := by show _ ≤ _; omega
      clear h6
      have f2 : Below w.heap.size w (st12 wF gR (.int .i64 v0) (.int .i64 v3) (.int .i64 v4) (.bool (v5 == 1)) (.int .i64 v8) (.int .i64 v9) (.int .i64 v10) (.int .i64 v11) (.int .i64 0) (.int .i64 0) (.int .i64 0) (.int .i64 0)) := st12_below M15.out.bl (by rw [HG.out]; omega)
      have f3 : Blk (st12 wF gR (.int .i64 v0) (.int .i64 v3) (.int .i64 v4) (.bool (v5 == 1)) (.int .i64 v8) (.int .i64 v9) (.int .i64 v10) (.int .i64 v11) (.int .i64 0) (.int .i64 0) (.int .i64 0) (.int .i64 0)) gR 25 #[.int .i64 v0, .int .i64 v3, .int .i64 v4, .bool (v5 == 1), .int .i64 v8, .int .i64 v9, .int .i64 v10, .int .i64 v11, .int .i64 0, .int .i64 0, .int .i64 0, .int .i64 0] := st12_blk M15.out.res
      have hfin : MadeRq l w (.returned (.tuple #[.agg #[.int .i64 v0, .int .i64 v3, .int .i64 v4, .bool (v5 == 1), .int .i64 v8, .int .i64 v9, .int .i64 v10, .int .i64 v11, .int .i64 0, .int .i64 0, .int .i64 0, .int .i64 0], .int .i64 ((l.length : Int) - l11.length)])) ((st12 wF gR (.int .i64 v0) (.int .i64 v3) (.int .i64 v4) (.bool (v5 == 1)) (.int .i64 v8) (.int .i64 v9) (.int .i64 v10) (.int .i64 v11) (.int .i64 0) (.int .i64 0) (.int .i64 0) (.int .i64 0)).drew) := ⟨_, _, _, hQ.out, .inr ⟨⟨HBF.out, h6'.out⟩, rfl⟩, f2.drew⟩
      clear f2
      go_upto_region 19 with fail
      go_region
      go_wp2_with fail
      obtain ⟨d0, d1, d2, d3, d4, d5, d6, d7, d8, d9, d10, d11⟩ := c12_of (blk_drew f3)
      unfold st12 at d0 d1 d2 d3 d4 d5 d6 d7 d8 d9 d10 d11 hfin
      exact bodyPost_ret (v := .tuple #[.agg #[.int .i64 v0, .int .i64 v3, .int .i64 v4, .bool (v5 == 1), .int .i64 v8, .int .i64 v9, .int .i64 v10, .int .i64 v11, .int .i64 0, .int .i64 0, .int .i64 0, .int .i64 0], .int .i64 ((l.length : Int) - l11.length)]) (by simp [results, Try.results15, go_sem, d0, d1, d2, d3, d4, d5, d6, d7, d8, d9, d10, d11]) rfl hfin
  have q0 : (v0 == 0) = false := beq_eq_false_iff_ne.2 k0
  by_cases k1 : v0 = 1
  · have q1 : (v0 == 1) = true := beq_iff_eq.2 k1
    have KK := Lib.hid k1
    clear k1
    go_wp2_with fail
    refine (rtake_r gD gR l1 b1 4 _ (by omega) (by omega) M0.out.rdr).mono ?_
    rintro e w3 ⟨rfl, r3, g3⟩
    generalize ht3 : rakS 4 l1 b1 = T3 at r3 ⊢
    have HT3 := Lib.hid ht3
    obtain ⟨v3, l3, b3⟩ := T3
    have M1 : Hid (Fsq gR w w3 gD gR gM #[.int .i64 v0, .int .i64 0, .int .i64 0, .bool false, .int .i64 0, .int .i64 0, .int .i64 0, .int .i64 0, .int .i64 0, .int .i64 0, .int .i64 0, .int .i64 0] l3 b3) := M0.out.step r3 g3
    clear r3 g3 ht3 M0
    have z8 := M1.out.var.cell 8
    have y8 := M1.out.var.thaw 8
    simp only [List.getElem?_toArray, List.getElem?_cons_zero, List.getElem?_cons_succ] at z8
    have M2 : Hid (Fsq gR w (w3.setCell ⟨gM, 8, none⟩ (.int .i64 v3)) gD gR gM #[.int .i64 v0, .int .i64 0, .int .i64 0, .bool false, .int .i64 0, .int .i64 0, .int .i64 0, .int .i64 0, .int .i64 v3, .int .i64 0, .int .i64 0, .int .i64 0] l3 b3) := M1.out.put 8 _
    clear M1
    have hQ : Hid (FirQ l ⟨v0, 0, 0, false, 0, 0, 0, 0, v3, 0, 0, 0⟩ l3 b3) := ⟨_, HT1.out.symm, .inr (.inl ⟨.inl KK.out, _, HT3.out.symm, rfl, rfl, rfl⟩)⟩
    go_upto_region 17 with fail
    generalize (w3.setCell ⟨gM, 8, none⟩ (.int .i64 v3)) = wF at M2 ⊢
    obtain ⟨A5, c5, hb5, hB5, hby5, hlc5, hc5, hl5⟩ := M2.out.rdr
    have e0 : wF.cell? ⟨gD, 0, none⟩ = some (.slice A5 l3.length c5) := hb5.cell 0
    have e1 : wF.cell? ⟨gD, 1, none⟩ = some (.bool b3) := hb5.cell 1
    obtain ⟨j0, j1, j2, j3, j4, j5, j6, j7, j8, j9, j10, j11⟩ := c12_of M2.out.var
    obtain ⟨z0, z1, z2, z3, z4, z5, z6, z7, z8, z9, z10, z11, y0, y1, y2, y3, y4, y5, y6, y7, y8, y9, y10, y11⟩ := z12_of M2.out.res
    have n1 : gR ≠ gD := by have := M2.out.h2; omega
    have n2 : gD ≠ gR := by have := M2.out.h2; omega
    have n3 : gR ≠ gM := by have := M2.out.h2; have := M2.out.h3; omega
    have n4 : gM ≠ gR := by have := M2.out.h2; have := M2.out.h3; omega
    by_cases hbb : b3 = true
    · have hbb' : Hid (b3 = true) := hbb
      rw [hbb] at e1
      clear hbb
      have f2 : Below w.heap.size w (st12 wF gR (.int .i64 0) (.int .i64 0) (.int .i64 0) (.bool false) (.int .i64 0) (.int .i64 0) (.int .i64 0) (.int .i64 0) (.int .i64 0) (.int .i64 0) (.int .i64 0) (.int .i64 0)) := st12_below M2.out.bl (by rw [HG.out]; omega)
      have f3 : Blk (st12 wF gR (.int .i64 0) (.int .i64 0) (.int .i64 0) (.bool false) (.int .i64 0) (.int .i64 0) (.int .i64 0) (.int .i64 0) (.int .i64 0) (.int .i64 0) (.int .i64 0) (.int .i64 0)) gR 25 #[.int .i64 0, .int .i64 0, .int .i64 0, .bool false, .int .i64 0, .int .i64 0, .int .i64 0, .int .i64 0, .int .i64 0, .int .i64 0, .int .i64 0, .int .i64 0] := st12_blk M2.out.res
      have hfin : MadeRq l w (.returned (.tuple #[.agg #[.int .i64 0, .int .i64 0, .int .i64 0, .bool false, .int .i64 0, .int .i64 0, .int .i64 0, .int .i64 0, .int .i64 0, .int .i64 0, .int .i64 0, .int .i64 0], .int .i64 0])) (st12 wF gR (.int .i64 0) (.int .i64 0) (.int .i64 0) (.bool false) (.int .i64 0) (.int .i64 0) (.int .i64 0) (.int .i64 0) (.int .i64 0) (.int .i64 0) (.int .i64 0) (.int .i64 0)) := ⟨_, _, _, hQ.out, .inl ⟨.inl hbb'.out, rfl⟩, f2⟩
      clear f2
      go_wp2_with fail
      obtain ⟨d0, d1, d2, d3, d4, d5, d6, d7, d8, d9, d10, d11⟩ := c12_of f3
      unfold st12 at d0 d1 d2 d3 d4 d5 d6 d7 d8 d9 d10 d11 hfin
      exact bodyPost_ret (v := .tuple #[.agg #[.int .i64 0, .int .i64 0, .int .i64 0, .bool false, .int .i64 0, .int .i64 0, .int .i64 0, .int .i64 0, .int .i64 0, .int .i64 0, .int .i64 0, .int .i64 0], .int .i64 0]) (by simp [results, Try.results15, go_sem, d0, d1, d2, d3, d4, d5, d6, d7, d8, d9, d10, d11]) rfl hfin
    have hbf : b3 = false := by simpa using hbb
    have HBF := Lib.hid hbf
    rw [hbf] at e1
    clear hbb hbf
    by_cases h6 : 6 < v0
    · have t6 : decide (6 < v0) = true := decide_eq_true h6
      have h6' : Hid (6 < v0) := h6
      clear h6
      have f2 : Below w.heap.size w (st12 wF gR (.int .i64 0) (.int .i64 0) (.int .i64 0) (.bool false) (.int .i64 0) (.int .i64 0) (.int .i64 0) (.int .i64 0) (.int .i64 0) (.int .i64 0) (.int .i64 0) (.int .i64 0)) := st12_below M2.out.bl (by rw [HG.out]; omega)
      have f3 : Blk (st12 wF gR (.int .i64 0) (.int .i64 0) (.int .i64 0) (.bool false) (.int .i64 0) (.int .i64 0) (.int .i64 0) (.int .i64 0) (.int .i64 0) (.int .i64 0) (.int .i64 0) (.int .i64 0)) gR 25 #[.int .i64 0, .int .i64 0, .int .i64 0, .bool false, .int .i64 0, .int .i64 0, .int .i64 0, .int .i64 0, .int .i64 0, .int .i64 0, .int .i64 0, .int .i64 0] := st12_blk M2.out.res
      have hfin : MadeRq l w (.returned (.tuple #[.agg #[.int .i64 0, .int .i64 0, .int .i64 0, .bool false, .int .i64 0, .int .i64 0, .int .i64 0, .int .i64 0, .int .i64 0, .int .i64 0, .int .i64 0, .int .i64 0], .int .i64 0])) (st12 wF gR (.int .i64 0) (.int .i64 0) (.int .i64 0) (.bool false) (.int .i64 0) (.int .i64 0) (.int .i64 0) (.int .i64 0) (.int .i64 0) (.int .i64 0) (.int .i64 0) (.int .i64 0)) := ⟨_, _, _, hQ.out, .inl ⟨.inr h6'.out, rfl⟩, f2⟩
      clear f2
      go_wp2_with fail
      obtain ⟨d0, d1, d2, d3, d4, d5, d6, d7, d8, d9, d10, d11⟩ := c12_of f3
      unfold st12 at d0 d1 d2 d3 d4 d5 d6 d7 d8 d9 d10 d11 hfin
      exact bodyPost_ret (v := .tuple #[.agg #[.int .i64 0, .int .i64 0, .int .i64 0, .bool false, .int .i64 0, .int .i64 0, .int .i64 0, .int .i64 0, .int .i64 0, .int .i64 0, .int .i64 0, .int .i64 0], .int .i64 0]) (by simp [results, Try.results15, go_sem, d0, d1, d2, d3, d4, d5, d6, d7, d8, d9, d10, d11]) rfl hfin
    have t6 : decide (6 < v0) = false := decide_eq_false h6
    have h6' : Hid (v0 ≤ 6) := by show _ ≤ _; omega
    clear h6
    have f2 : Below w.heap.size w (st12 wF gR (.int .i64 v0) (.int .i64 0) (.int .i64 0) (.bool false) (.int .i64 0) (.int .i64 0) (.int .i64 0) (.int .i64 0) (.int .i64 v3) (.int .i64 0) (.int .i64 0) (.int .i64 0)) := st12_below M2.out.bl (by rw [HG.out]; omega)
    have f3 : Blk (st12 wF gR (.int .i64 v0) (.int .i64 0) (.int .i64 0) (.bool false) (.int .i64 0) (.int .i64 0) (.int .i64 0) (.int .i64 0) (.int .i64 v3) (.int .i64 0) (.int .i64 0) (.int .i64 0)) gR 25 #[.int .i64 v0, .int .i64 0, .int .i64 0, .bool false, .int .i64 0, .int .i64 0, .int .i64 0, .int .i64 0, .int .i64 v3, .int .i64 0, .int .i64 0, .int .i64 0] := st12_blk M2.out.res
    have hfin : MadeRq l w (.returned (.tuple #[.agg #[.int .i64 v0, .int .i64 0, .int .i64 0, .bool false, .int .i64 0, .int .i64 0, .int .i64 0, .int .i64 0, .int .i64 v3, .int .i64 0, .int .i64 0, .int .i64 0], .int .i64 ((l.length : Int) - l3.length)])) ((st12 wF gR (.int .i64 v0) (.int .i64 0) (.int .i64 0) (.bool false) (.int .i64 0) (.int .i64 0) (.int .i64 0) (.int .i64 0) (.int .i64 v3) (.int .i64 0) (.int .i64 0) (.int .i64 0)).drew) := ⟨_, _, _, hQ.out, .inr ⟨⟨HBF.out, h6'.out⟩, rfl⟩, f2.drew⟩
    clear f2
    go_upto_region 19 with fail
    go_region
    go_wp2_with fail
    obtain ⟨d0, d1, d2, d3, d4, d5, d6, d7, d8, d9, d10, d11⟩ := c12_of (blk_drew f3)
    unfold st12 at d0 d1 d2 d3 d4 d5 d6 d7 d8 d9 d10 d11 hfin
    exact bodyPost_ret (v := .tuple #[.agg #[.int .i64 v0, .int .i64 0, .int .i64 0, .bool false, .int .i64 0, .int .i64 0, .int .i64 0, .int .i64 0, .int .i64 v3, .int .i64 0, .int .i64 0, .int .i64 0], .int .i64 ((l.length : Int) - l3.length)]) (by simp [results, Try.results15, go_sem, d0, d1, d2, d3, d4, d5, d6, d7, d8, d9, d10, d11]) rfl hfin
  have q1 : (v0 == 1) = false := beq_eq_false_iff_ne.2 k1
  by_cases k3 : v0 = 3
  · have q3 : (v0 == 3) = true := beq_iff_eq.2 k3
    have KK := Lib.hid k3
    clear k3
    go_wp2_with fail
    refine (rtake_r gD gR l1 b1 4 _ (by omega) (by omega) M0.out.rdr).mono ?_
    rintro e w3 ⟨rfl, r3, g3⟩
    generalize ht3 : rakS 4 l1 b1 = T3 at r3 ⊢
    have HT3 := Lib.hid ht3
    obtain ⟨v3, l3, b3⟩ := T3
    have M1 : Hid (Fsq gR w w3 gD gR gM #[.int .i64 v0, .int .i64 0, .int .i64 0, .bool false, .int .i64 0, .int .i64 0, .int .i64 0, .int .i64 0, .int .i64 0, .int .i64 0, .int .i64 0, .int .i64 0] l3 b3) := M0.out.step r3 g3
    clear r3 g3 ht3 M0
    have z8 := M1.out.var.cell 8
    have y8 := M1.out.var.thaw 8
    simp only [List.getElem?_toArray, List.getElem?_cons_zero, List.getElem?_cons_succ] at z8
    have M2 : Hid (Fsq gR w (w3.setCell ⟨gM, 8, none⟩ (.int .i64 v3)) gD gR gM #[.int .i64 v0, .int .i64 0, .int .i64 0, .bool false, .int .i64 0, .int .i64 0, .int .i64 0, .int .i64 0, .int .i64 v3, .int .i64 0, .int .i64 0, .int .i64 0] l3 b3) := M1.out.put 8 _
    clear M1
    have hQ : Hid (FirQ l ⟨v0, 0, 0, false, 0, 0, 0, 0, v3, 0, 0, 0⟩ l3 b3) := ⟨_, HT1.out.symm, .inr (.inl ⟨.inr KK.out, _, HT3.out.symm, rfl, rfl, rfl⟩)⟩
    go_upto_region 17 with fail
    generalize (w3.setCell ⟨gM, 8, none⟩ (.int .i64 v3)) = wF at M2 ⊢
    obtain ⟨A5, c5, hb5, hB5, hby5, hlc5, hc5, hl5⟩ := M2.out.rdr
    have e0 : wF.cell? ⟨gD, 0, none⟩ = some (.slice A5 l3.length c5) := hb5.cell 0
    have e1 : wF.cell? ⟨gD, 1, none⟩ = some (.bool b3) := hb5.cell 1
    obtain ⟨j0, j1, j2, j3, j4, j5, j6, j7, j8, j9, j10, j11⟩ := c12_of M2.out.var
    obtain ⟨z0, z1, z2, z3, z4, z5, z6, z7, z8, z9, z10, z11, y0, y1, y2, y3, y4, y5, y6, y7, y8, y9, y10, y11⟩ := z12_of M2.out.res
    have n1 : gR ≠ gD := by have := M2.out.h2; omega
    have n2 : gD ≠ gR := by have := M2.out.h2; omega
    have n3 : gR ≠ gM := by have := M2.out.h2; have := M2.out.h3; omega
    have n4 : gM ≠ gR := by have := M2.out.h2; have := M2.out.h3; omega
    by_cases hbb : b3 = true
    · have hbb' : Hid (b3 = true) := hbb
      rw [hbb] at e1
      clear hbb
      have f2 : Below w.heap.size w (st12 wF gR (.int .i64 0) (.int .i64 0) (.int .i64 0) (.bool false) (.int .i64 0) (.int .i64 0) (.int .i64 0) (.int .i64 0) (.int .i64 0) (.int .i64 0) (.int .i64 0) (.int .i64 0)) := st12_below M2.out.bl (by rw [HG.out]; omega)
      have f3 : Blk (st12 wF gR (.int .i64 0) (.int .i64 0) (.int .i64 0) (.bool false) (.int .i64 0) (.int .i64 0) (.int .i64 0) (.int .i64 0) (.int .i64 0) (.int .i64 0) (.int .i64 0) (.int .i64 0)) gR 25 #[.int .i64 0, .int .i64 0, .int .i64 0, .bool false, .int .i64 0, .int .i64 0, .int .i64 0, .int .i64 0, .int .i64 0, .int .i64 0, .int .i64 0, .int .i64 0] := st12_blk M2.out.res
      have hfin : MadeRq l w (.returned (.tuple #[.agg #[.int .i64 0, .int .i64 0, .int .i64 0, .bool false, .int .i64 0, .int .i64 0, .int .i64 0, .int .i64 0, .int .i64 0, .int .i64 0, .int .i64 0, .int .i64 0], .int .i64 0])) (st12 wF gR (.int .i64 0) (.int .i64 0) (.int .i64 0) (.bool false) (.int .i64 0) (.int .i64 0) (.int .i64 0) (.int .i64 0) (.int .i64 0) (.int .i64 0) (.int .i64 0) (.int .i64 0)) := ⟨_, _, _, hQ.out, .inl ⟨.inl hbb'.out, rfl⟩, f2⟩
      clear f2
      go_wp2_with fail
      obtain ⟨d0, d1, d2, d3, d4, d5, d6, d7, d8, d9, d10, d11⟩ := c12_of f3
      unfold st12 at d0 d1 d2 d3 d4 d5 d6 d7 d8 d9 d10 d11 hfin
      exact bodyPost_ret (v := .tuple #[.agg #[.int .i64 0, .int .i64 0, .int .i64 0, .bool false, .int .i64 0, .int .i64 0, .int .i64 0, .int .i64 0, .int .i64 0, .int .i64 0, .int .i64 0, .int .i64 0], .int .i64 0]) (by simp [results, Try.results15, go_sem, d0, d1, d2, d3, d4, d5, d6, d7, d8, d9, d10, d11]) rfl hfin
    have hbf : b3 = false := by simpa using hbb
    have HBF := Lib.hid hbf
    rw [hbf] at e1
    clear hbb hbf
    by_cases h6 : 6 < v0
    · have t6 : decide (6 < v0) = true := decide_eq_true h6
      have h6' : Hid (6 < v0) := h6
      clear h6
      have f2 : Below w.heap.size w (st12 wF gR (.int .i64 0) (.int .i64 0) (.int .i64 0) (.bool false) (.int .i64 0) (.int .i64 0) (.int .i64 0) (.int .i64 0) (.int .i64 0) (.int .i64 0) (.int .i64 0) (.int .i64 0)) := st12_below M2.out.bl (by rw [HG.out]; omega)
      have f3 : Blk (st12 wF gR (.int .i64 0) (.int .i64 0) (.int .i64 0) (.bool false) (.int .i64 0) (.int .i64 0) (.int .i64 0) (.int .i64 0) (.int .i64 0) (.int .i64 0) (.int .i64 0) (.int .i64 0)) gR 25 #[.int .i64 0, .int .i64 0, .int .i64 0, .bool false, .int .i64 0, .int .i64 0, .int .i64 0, .int .i64 0, .int .i64 0, .int .i64 0, .int .i64 0, .int .i64 0] := st12_blk M2.out.res
      have hfin : MadeRq l w (.returned (.tuple #[.agg #[.int .i64 0, .int .i64 0, .int .i64 0, .bool false, .int .i64 0, .int .i64 0, .int .i64 0, .int .i64 0, .int .i64 0, .int .i64 0, .int .i64 0, .int .i64 0], .int .i64 0])) (st12 wF gR (.int .i64 0) (.int .i64 0) (.int .i64 0) (.bool false) (.int .i64 0) (.int .i64 0) (.int .i64 0) (.int .i64 0) (.int .i64 0) (.int .i64 0) (.int .i64 0) (.int .i64 0)) := ⟨_, _, _, hQ.out, .inl ⟨.inr h6'.out, rfl⟩, f2⟩
      clear f2
      go_wp2_with fail
      obtain ⟨d0, d1, d2, d3, d4, d5, d6, d7, d8, d9, d10, d11⟩ := c12_of f3
      unfold st12 at d0 d1 d2 d3 d4 d5 d6 d7 d8 d9 d10 d11 hfin
      exact bodyPost_ret (v := .tuple #[.agg #[.int .i64 0, .int .i64 0, .int .i64 0, .bool false, .int .i64 0, .int .i64 0, .int .i64 0, .int .i64 0, .int .i64 0, .int .i64 0, .int .i64 0, .int .i64 0], .int .i64 0]) (by simp [results, Try.results15, go_sem, d0, d1, d2, d3, d4, d5, d6, d7, d8, d9, d10, d11]) rfl hfin
    have t6 : decide (6 < v0) = false := decide_eq_false h6
    have h6' : Hid (v0 ≤ 6) := by show _ ≤ _; omega
    clear h6
    have f2 : Below w.heap.size w (st12 wF gR (.int .i64 v0) (.int .i64 0) (.int .i64 0) (.bool false) (.int .i64 0) (.int .i64 0) (.int .i64 0) (.int .i64 0) (.int .i64 v3) (.int .i64 0) (.int .i64 0) (.int .i64 0)) := st12_below M2.out.bl (by rw [HG.out]; omega)
    have f3 : Blk (st12 wF gR (.int .i64 v0) (.int .i64 0) (.int .i64 0) (.bool false) (.int .i64 0) (.int .i64 0) (.int .i64 0) (.int .i64 0) (.int .i64 v3) (.int .i64 0) (.int .i64 0) (.int .i64 0)) gR 25 #[.int .i64 v0, .int .i64 0, .int .i64 0, .bool false, .int .i64 0, .int .i64 0, .int .i64 0, .int .i64 0, .int .i64 v3, .int .i64 0, .int .i64 0, .int .i64 0] := st12_blk M2.out.res
    have hfin : MadeRq l w (.returned (.tuple #[.agg #[.int .i64 v0, .int .i64 0, .int .i64 0, .bool false, .int .i64 0, .int .i64 0, .int .i64 0, .int .i64 0, .int .i64 v3, .int .i64 0, .int .i64 0, .int .i64 0], .int .i64 ((l.length : Int) - l3.length)])) ((st12 wF gR (.int .i64 v0) (.int .i64 0) (.int .i64 0) (.bool false) (.int .i64 0) (.int .i64 0) (.int .i64 0) (.int .i64 0) (.int .i64 v3) (.int .i64 0) (.int .i64 0) (.int .i64 0)).drew) := ⟨_, _, _, hQ.out, .inr ⟨⟨HBF.out, h6'.out⟩, rfl⟩, f2.drew⟩
    clear f2
    go_upto_region 19 with fail
    go_region
    go_wp2_with fail
    obtain ⟨d0, d1, d2, d3, d4, d5, d6, d7, d8, d9, d10, d11⟩ := c12_of (blk_drew f3)
    unfold st12 at d0 d1 d2 d3 d4 d5 d6 d7 d8 d9 d10 d11 hfin
    exact bodyPost_ret (v := .tuple #[.agg #[.int .i64 v0, .int .i64 0, .int .i64 0, .bool false, .int .i64 0, .int .i64 0, .int .i64 0, .int .i64 0, .int .i64 v3, .int .i64 0, .int .i64 0, .int .i64 0], .int .i64 ((l.length : Int) - l3.length)]) (by simp [results, Try.results15, go_sem, d0, d1, d2, d3, d4, d5, d6, d7, d8, d9, d10, d11]) rfl hfin
  have q3 : (v0 == 3) = false := beq_eq_false_iff_ne.2 k3
  by_cases k2 : v0 = 2
  · have q2 : (v0 == 2) = true := beq_iff_eq.2 k2
    have KK := Lib.hid k2
    clear k2
    go_wp2_with fail
    refine (rtake_r gD gR l1 b1 4 _ (by omega) (by omega) M0.out.rdr).mono ?_
    rintro e w3 ⟨rfl, r3, g3⟩
    generalize ht3 : rakS 4 l1 b1 = T3 at r3 ⊢
    have HT3 := Lib.hid ht3
    obtain ⟨v3, l3, b3⟩ := T3
    have M1 : Hid (Fsq gR w w3 gD gR gM #[.int .i64 v0, .int .i64 0, .int .i64 0, .bool false, .int .i64 0, .int .i64 0, .int .i64 0, .int .i64 0, .int .i64 0, .int .i64 0, .int .i64 0, .int .i64 0] l3 b3) := M0.out.step r3 g3
    clear r3 g3 ht3 M0
    go_wp2_with fail
    refine (rtake_r gD gR l3 b3 8 _ (by omega) (by omega) M1.out.rdr).mono ?_
    rintro e w4 ⟨rfl, r4, g4⟩
    generalize ht4 : rakS 8 l3 b3 = T4 at r4 ⊢
    have HT4 := Lib.hid ht4
    obtain ⟨v4, l4, b4⟩ := T4
    have M2 : Hid (Fsq gR w w4 gD gR gM #[.int .i64 v0, .int .i64 0, .int .i64 0, .bool false, .int .i64 0, .int .i64 0, .int .i64 0, .int .i64 0, .int .i64 0, .int .i64 0, .int .i64 0, .int .i64 0] l4 b4) := M1.out.step r4 g4
    clear r4 g4 ht4 M1
    have z8 := M2.out.var.cell 8
    have y8 := M2.out.var.thaw 8
    simp only [List.getElem?_toArray, List.getElem?_cons_zero, List.getElem?_cons_succ] at z8
    have z9 := M2.out.var.cell 9
    have y9 := M2.out.var.thaw 9
    simp only [List.getElem?_toArray, List.getElem?_cons_zero, List.getElem?_cons_succ] at z9
    have M3 : Hid (Fsq gR w (w4.setCell ⟨gM, 8, none⟩ (.int .i64 v3)) gD gR gM #[.int .i64 v0, .int .i64 0, .int .i64 0, .bool false, .int .i64 0, .int .i64 0, .int .i64 0, .int .i64 0, .int .i64 v3, .int .i64 0, .int .i64 0, .int .i64 0] l4 b4) := M2.out.put 8 _
    have M4 : Hid (Fsq gR w ((w4.setCell ⟨gM, 8, none⟩ (.int .i64 v3)).setCell ⟨gM, 9, none⟩ (.int .i64 v4)) gD gR gM #[.int .i64 v0, .int .i64 0, .int .i64 0, .bool false, .int .i64 0, .int .i64 0, .int .i64 0, .int .i64 0, .int .i64 v3, .int .i64 v4, .int .i64 0, .int .i64 0] l4 b4) := M3.out.put 9 _
    clear M2 M3
    have hQ : Hid (FirQ l ⟨v0, 0, 0, false, 0, 0, 0, 0, v3, v4, 0, 0⟩ l4 b4) := ⟨_, HT1.out.symm, .inr (.inr (.inl ⟨KK.out, _, _, HT3.out.symm, HT4.out.symm, rfl, rfl, rfl⟩ ))⟩
    go_upto_region 17 with fail
    generalize ((w4.setCell ⟨gM, 8, none⟩ (.int .i64 v3)).setCell ⟨gM, 9, none⟩ (.int .i64 v4)) = wF at M4 ⊢
    obtain ⟨A5, c5, hb5, hB5, hby5, hlc5, hc5, hl5⟩ := M4.out.rdr
    have e0 : wF.cell? ⟨gD, 0, none⟩ = some (.slice A5 l4.length c5) := hb5.cell 0
    have e1 : wF.cell? ⟨gD, 1, none⟩ = some (.bool b4) := hb5.cell 1
    obtain ⟨j0, j1, j2, j3, j4, j5, j6, j7, j8, j9, j10, j11⟩ := c12_of M4.out.var
    obtain ⟨z0, z1, z2, z3, z4, z5, z6, z7, z8, z9, z10, z11, y0, y1, y2, y3, y4, y5, y6, y7, y8, y9, y10, y11⟩ := z12_of M4.out.res
    have n1 : gR ≠ gD := by have := M4.out.h2; omega
    have n2 : gD ≠ gR := by have := M4.out.h2; omega
    have n3 : gR ≠ gM := by have := M4.out.h2; have := M4.out.h3; omega
    have n4 : gM ≠ gR := by have := M4.out.h2; have := M4.out.h3; omega
    by_cases hbb : b4 = true
    · have hbb' : Hid (b4 = true) := hbb
      rw [hbb] at e1
      clear hbb
      have f2 : Below w.heap.size w (st12 wF gR (.int .i64 0) (.int .i64 0) (.int .i64 0) (.bool false) (.int .i64 0) (.int .i64 0) (.int .i64 0) (.int .i64 0) (.int .i64 0) (.int .i64 0) (.int .i64 0) (.int .i64 0)) := st12_below M4.out.bl (by rw [HG.out]; omega)
      have f3 : Blk (st12 wF gR (.int .i64 0) (.int .i64 0) (.int .i64 0) (.bool false) (.int .i64 0) (.int .i64 0) (.int .i64 0) (.int .i64 0) (.int .i64 0) (.int .i64 0) (.int .i64 0) (.int .i64 0)) gR 25 #[.int .i64 0, .int .i64 0, .int .i64 0, .bool false, .int .i64 0, .int .i64 0, .int .i64 0, .int .i64 0, .int .i64 0, .int .i64 0, .int .i64 0, .int .i64 0] := st12_blk M4.out.res
      have hfin : MadeRq l w (.returned (.tuple #[.agg #[.int .i64 0, .int .i64 0, .int .i64 0, .bool false, .int .i64 0, .int .i64 0, .int .i64 0, .int .i64 0, .int .i64 0, .int .i64 0, .int .i64 0, .int .i64 0], .int .i64 0])) (st12 wF gR (.int .i64 0) (.int .i64 0) (.int .i64 0) (.bool false) (.int .i64 0) (.int .i64 0) (.int .i64 0) (.int .i64 0) (.int .i64 0) (.int .i64 0) (.int .i64 0) (.int .i64 0)) := ⟨_, _, _, hQ.out, .inl ⟨.inl hbb'.out, rfl⟩, f2⟩
      clear f2
      go_wp2_with fail
      obtain ⟨d0, d1, d2, d3, d4, d5, d6, d7, d8, d9, d10, d11⟩ := c12_of f3
      unfold st12 at d0 d1 d2 d3 d4 d5 d6 d7 d8 d9 d10 d11 hfin
      exact bodyPost_ret (v := .tuple #[.agg #[.int .i64 0, .int .i64 0, .int .i64 0, .bool false, .int .i64 0, .int .i64 0, .int .i64 0, .int .i64 0, .int .i64 0, .int .i64 0, .int .i64 0, .int .i64 0], .int .i64 0]) (by simp [results, Try.results15, go_sem, d0, d1, d2, d3, d4, d5, d6, d7, d8, d9, d10, d11]) rfl hfin
    have hbf : b4 = false := by simpa using hbb
    have HBF := Lib.hid hbf
    rw [hbf] at e1
    clear hbb hbf
    by_cases h6 : 6 < v0
    · have t6 : decide (6 < v0) = true := decide_eq_true h6
      have h6' : Hid (6 < v0) := h6
      clear h6
      have f2 : Below w.heap.size w (st12 wF gR (.int .i64 0) (.int .i64 0) (.int .i64 0) (.bool false) (.int .i64 0) (.int .i64 0) (.int .i64 0) (.int .i64 0) (.int .i64 0) (.int .i64 0) (.int .i64 0) (.int .i64 0)) := st12_below M4.out.bl (by rw [HG.out]; omega)
      have f3 : Blk (st12 wF gR (.int .i64 0) (.int .i64 0) (.int .i64 0) (.bool false) (.int .i64 0) (.int .i64 0) (.int .i64 0) (.int .i64 0) (.int .i64 0) (.int .i64 0) (.int .i64 0) (.int .i64 0)) gR 25 #[.int .i64 0, .int .i64 0, .int .i64 0, .bool false, .int .i64 0, .int .i64 0, .int .i64 0, .int .i64 0, .int .i64 0, .int .i64 0, .int .i64 0, .int .i64 0] := st12_blk M4.out.res
      have hfin : MadeRq l w (.returned (.tuple #[.agg #[.int .i64 0, .int .i64 0, .int .i64 0, .bool false, .int .i64 0, .int .i64 0, .int .i64 0, .int .i64 0, .int .i64 0, .int .i64 0, .int .i64 0, .int .i64 0], .int .i64 0])) (st12 wF gR (.int .i64 0) (.int .i64 0) (.int .i64 0) (.bool false) (.int .i64 0) (.int .i64 0) (.int .i64 0) (.int .i64 0) (.int .i64 0) (.int .i64 0) (.int .i64 0) (.int .i64 0)) := ⟨_, _, _, hQ.out, .inl ⟨.inr h6'.out, rfl⟩, f2⟩
      clear f2
      go_wp2_with fail
      obtain ⟨d0, d1, d2, d3, d4, d5, d6, d7, d8, d9, d10, d11⟩ := c12_of f3
      unfold st12 at d0 d1 d2 d3 d4 d5 d6 d7 d8 d9 d10 d11 hfin
      exact bodyPost_ret (v := .tuple #[.agg #[.int .i64 0, .int .i64 0, .int .i64 0, .bool false, .int .i64 0, .int .i64 0, .int .i64 0, .int .i64 0, .int .i64 0, .int .i64 0, .int .i64 0, .int .i64 0], .int .i64 0]) (by simp [results, Try.results15, go_sem, d0, d1, d2, d3, d4, d5, d6, d7, d8, d9, d10, d11]) rfl hfin
    have t6 : decide (6 < v0) = false := decide_eq_false h6
    have h6' : Hid (v0 ≤ 6) := by show _ ≤ _; omega
    clear h6
    have f2 : Below w.heap.size w (st12 wF gR (.int .i64 v0) (.int .i64 0) (.int .i64 0) (.bool false) (.int .i64 0) (.int .i64 0) (.int .i64 0) (.int .i64 0) (.int .i64 v3) (.int .i64 v4) (.int .i64 0) (.int .i64 0)) := st12_below M4.out.bl (by rw [HG.out]; omega)
    have f3 : Blk (st12 wF gR (.int .i64 v0) (.int .i64 0) (.int .i64 0) (.bool false) (.int .i64 0) (.int .i64 0) (.int .i64 0) (.int .i64 0) (.int .i64 v3) (.int .i64 v4) (.int .i64 0) (.int .i64 0)) gR 25 #[.int .i64 v0, .int .i64 0, .int .i64 0, .bool false, .int .i64 0, .int .i64 0, .int .i64 0, .int .i64 0, .int .i64 v3, .int .i64 v4, .int .i64 0, .int .i64 0] := st12_blk M4.out.res
    have hfin : MadeRq l w (.returned (.tuple #[.agg #[.int .i64 v0, .int .i64 0, .int .i64 0, .bool false, .int .i64 0, .int .i64 0, .int .i64 0, .int .i64 0, .int .i64 v3, .int .i64 v4, .int .i64 0, .int .i64 0], .int .i64 ((l.length : Int) - l4.length)])) ((st12 wF gR (.int .i64 v0) (.int .i64 0) (.int .i64 0) (.bool false) (.int .i64 0) (.int .i64 0) (.int .i64 0) (.int .i64 0) (.int .i64 v3) (.int .i64 v4) (.int .i64 0) (.int .i64 0)).drew) := ⟨_, _, _, hQ.out, .inr ⟨⟨HBF.out, h6'.out⟩, rfl⟩, f2.drew⟩
    clear f2
    go_upto_region 19 with fail
    go_region
    go_wp2_with fail
    obtain ⟨d0, d1, d2, d3, d4, d5, d6, d7, d8, d9, d10, d11⟩ := c12_of (blk_drew f3)
    unfold st12 at d0 d1 d2 d3 d4 d5 d6 d7 d8 d9 d10 d11 hfin
    exact bodyPost_ret (v := .tuple #[.agg #[.int .i64 v0, .int .i64 0, .int .i64 0, .bool false, .int .i64 0, .int .i64 0, .int .i64 0, .int .i64 0, .int .i64 v3, .int .i64 v4, .int .i64 0, .int .i64 0], .int .i64 ((l.length : Int) - l4.length)]) (by simp [results, Try.results15, go_sem, d0, d1, d2, d3, d4, d5, d6, d7, d8, d9, d10, d11]) rfl hfin
  have q2 : (v0 == 2) = false := beq_eq_false_iff_ne.2 k2
  by_cases k6 : v0 = 6
  · have q6 : (v0 == 6) = true := beq_iff_eq.2 k6
    have KK := Lib.hid k6
    clear k6
    go_wp2_with fail
    refine (rtake_r gD gR l1 b1 2 _ (by omega) (by omega) M0.out.rdr).mono ?_
    rintro e w3 ⟨rfl, r3, g3⟩
    generalize ht3 : rakS 2 l1 b1 = T3 at r3 ⊢
    have HT3 := Lib.hid ht3
    obtain ⟨v3, l3, b3⟩ := T3
    have M1 : Hid (Fsq gR w w3 gD gR gM #[.int .i64 v0, .int .i64 0, .int .i64 0, .bool false, .int .i64 0, .int .i64 0, .int .i64 0, .int .i64 0, .int .i64 0, .int .i64 0, .int .i64 0, .int .i64 0] l3 b3) := M0.out.step r3 g3
    clear r3 g3 ht3 M0
    go_wp2_with fail
    refine (rtake_r gD gR l3 b3 8 _ (by omega) (by omega) M1.out.rdr).mono ?_
    rintro e w4 ⟨rfl, r4, g4⟩
    generalize ht4 : rakS 8 l3 b3 = T4 at r4 ⊢
    have HT4 := Lib.hid ht4
    obtain ⟨v4, l4, b4⟩ := T4
    have M2 : Hid (Fsq gR w w4 gD gR gM #[.int .i64 v0, .int .i64 0, .int .i64 0, .bool false, .int .i64 0, .int .i64 0, .int .i64 0, .int .i64 0, .int .i64 0, .int .i64 0, .int .i64 0, .int .i64 0] l4 b4) := M1.out.step r4 g4
    clear r4 g4 ht4 M1
    have z8 := M2.out.var.cell 10
    have y8 := M2.out.var.thaw 10
    simp only [List.getElem?_toArray, List.getElem?_cons_zero, List.getElem?_cons_succ] at z8
    have z9 := M2.out.var.cell 11
    have y9 := M2.out.var.thaw 11
    simp only [List.getElem?_toArray, List.getElem?_cons_zero, List.getElem?_cons_succ] at z9
    have M3 : Hid (Fsq gR w (w4.setCell ⟨gM, 10, none⟩ (.int .i64 v3)) gD gR gM #[.int .i64 v0, .int .i64 0, .int .i64 0, .bool false, .int .i64 0, .int .i64 0, .int .i64 0, .int .i64 0, .int .i64 0, .int .i64 0, .int .i64 v3, .int .i64 0] l4 b4) := M2.out.put 10 _
    have M4 : Hid (Fsq gR w ((w4.setCell ⟨gM, 10, none⟩ (.int .i64 v3)).setCell ⟨gM, 11, none⟩ (.int .i64 v4)) gD gR gM #[.int .i64 v0, .int .i64 0, .int .i64 0, .bool false, .int .i64 0, .int .i64 0, .int .i64 0, .int .i64 0, .int .i64 0, .int .i64 0, .int .i64 v3, .int .i64 v4] l4 b4) := M3.out.put 11 _
    clear M2 M3
    have hQ : Hid (FirQ l ⟨v0, 0, 0, false, 0, 0, 0, 0, 0, 0, v3, v4⟩ l4 b4) := ⟨_, HT1.out.symm, .inr (.inr (.inr (.inl ⟨KK.out, _, _, HT3.out.symm, HT4.out.symm, rfl, rfl, rfl⟩ )))⟩
    go_upto_region 17 with fail
    generalize ((w4.setCell ⟨gM, 10, none⟩ (.int .i64 v3)).setCell ⟨gM, 11, none⟩ (.int .i64 v4)) = wF at M4 ⊢
    obtain ⟨A5, c5, hb5, hB5, hby5, hlc5, hc5, hl5⟩ := M4.out.rdr
    have e0 : wF.cell? ⟨gD, 0, none⟩ = some (.slice A5 l4.length c5) := hb5.cell 0
    have e1 : wF.cell? ⟨gD, 1, none⟩ = some (.bool b4) := hb5.cell 1
    obtain ⟨j0, j1, j2, j3, j4, j5, j6, j7, j8, j9, j10, j11⟩ := c12_of M4.out.var
    obtain ⟨z0, z1, z2, z3, z4, z5, z6, z7, z8, z9, z10, z11, y0, y1, y2, y3, y4, y5, y6, y7, y8, y9, y10, y11⟩ := z12_of M4.out.res
    have n1 : gR ≠ gD := by have := M4.out.h2; omega
    have n2 : gD ≠ gR := by have := M4.out.h2; omega
    have n3 : gR ≠ gM := by have := M4.out.h2; have := M4.out.h3; omega
    have n4 : gM ≠ gR := by have := M4.out.h2; have := M4.out.h3; omega
    by_cases hbb : b4 = true
    · have hbb' : Hid (b4 = true) := hbb
      rw [hbb] at e1
      clear hbb
      have f2 : Below w.heap.size w (st12 wF gR (.int .i64 0) (.int .i64 0) (.int .i64 0) (.bool false) (.int .i64 0) (.int .i64 0) (.int .i64 0) (.int .i64 0) (.int .i64 0) (.int .i64 0) (.int .i64 0) (.int .i64 0)) := st12_below M4.out.bl (by rw [HG.out]; omega)
      have f3 : Blk (st12 wF gR (.int .i64 0) (.int .i64 0) (.int .i64 0) (.bool false) (.int .i64 0) (.int .i64 0) (.int .i64 0) (.int .i64 0) (.int .i64 0) (.int .i64 0) (.int .i64 0) (.int .i64 0)) gR 25 #[.int .i64 0, .int .i64 0, .int .i64 0, .bool false, .int .i64 0, .int .i64 0, .int .i64 0, .int .i64 0, .int .i64 0, .int .i64 0, .int .i64 0, .int .i64 0] := st12_blk M4.out.res
      have hfin : MadeRq l w (.returned (.tuple #[.agg #[.int .i64 0, .int .i64 0, .int .i64 0, .bool false, .int .i64 0, .int .i64 0, .int .i64 0, .int .i64 0, .int .i64 0, .int .i64 0, .int .i64 0, .int .i64 0], .int .i64 0])) (st12 wF gR (.int .i64 0) (.int .i64 0) (.int .i64 0) (.bool false) (.int .i64 0) (.int .i64 0) (.int .i64 0) (.int .i64 0) (.int .i64 0) (.int .i64 0) (.int .i64 0) (.int .i64 0)) := ⟨_, _, _, hQ.out, .inl ⟨.inl hbb'.out, rfl⟩, f2⟩
      clear f2
      go_wp2_with fail
      obtain ⟨d0, d1, d2, d3, d4, d5, d6, d7, d8, d9, d10, d11⟩ := c12_of f3
      unfold st12 at d0 d1 d2 d3 d4 d5 d6 d7 d8 d9 d10 d11 hfin
      exact bodyPost_ret (v := .tuple #[.agg #[.int .i64 0, .int .i64 0, .int .i64 0, .bool false, .int .i64 0, .int .i64 0, .int .i64 0, .int .i64 0, .int .i64 0, .int .i64 0, .int .i64 0, .int .i64 0], .int .i64 0]) (by simp [results, Try.results15, go_sem, d0, d1, d2, d3, d4, d5, d6, d7, d8, d9, d10, d11]) rfl hfin
    have hbf : b4 = false := by simpa using hbb
    have HBF := Lib.hid hbf
    rw [hbf] at e1
    clear hbb hbf
    by_cases h6 : 6 < v0
    · have t6 : decide (6 < v0) = true := decide_eq_true h6
      have h6' : Hid (6 < v0) := h6
      clear h6
      have f2 : Below w.heap.size w (st12 wF gR (.int .i64 0) (.int .i64 0) (.int .i64 0) (.bool false) (.int .i64 0) (.int .i64 0) (.int .i64 0) (.int .i64 0) (.int .i64 0) (.int .i64 0) (.int .i64 0) (.int .i64 0)) := st12_below M4.out.bl (by rw [HG.out]; omega)
      have f3 : Blk (st12 wF gR (.int .i64 0) (.int .i64 0) (.int .i64 0) (.bool false) (.int .i64 0) (.int .i64 0) (.int .i64 0) (.int .i64 0) (.int .i64 0) (.int .i64 0) (.int .i64 0) (.int .i64 0)) gR 25 #[.int .i64 0, .int .i64 0, .int .i64 0, .bool false, .int .i64 0, .int .i64 0, .int .i64 0, .int .i64 0, .int .i64 0, .int .i64 0, .int .i64 0, .int .i64 0] := st12_blk M4.out.res
      have hfin : MadeRq l w (.returned (.tuple #[.agg #[.int .i64 0, .int .i64 0, .int .i64 0, .bool false, .int .i64 0, .int .i64 0, .int .i64 0, .int .i64 0, .int .i64 0, .int .i64 0, .int .i64 0, .int .i64 0], .int .i64 0])) (st12 wF gR (.int .i64 0) (.int .i64 0) (.int .i64 0) (.bool false) (.int .i64 0) (.int .i64 0) (.int .i64 0) (.int .i64 0) (.int .i64 0) (.int .i64 0) (.int .i64 0) (.int .i64 0)) := ⟨_, _, _, hQ.out, .inl ⟨.inr h6'.out, rfl⟩, f2⟩
      clear f2
      go_wp2_with fail
      obtain ⟨d0, d1, d2, d3, d4, d5, d6, d7, d8, d9, d10, d11⟩ := c12_of f3
      unfold st12 at d0 d1 d2 d3 d4 d5 d6 d7 d8 d9 d10 d11 hfin
      exact bodyPost_ret (v := .tuple #[.agg #[.int .i64 0, .int .i64 0, .int .i64 0, .bool false, .int .i64 0, .int .i64 0, .int .i64 0, .int .i64 0, .int .i64 0, .int .i64 0, .int .i64 0, .int .i64 0], .int .i64 0]) (by simp [results, Try.results15, go_sem, d0, d1, d2, d3, d4, d5, d6, d7, d8, d9, d10, d11]) rfl hfin
    have t6 : decide (6 < v0) = false := decide_eq_false h6
    have h6' : Hid (v0 ≤ 6) := by show _ ≤ _; omega
    clear h6
    have f2 : Below w.heap.size w (st12 wF gR (.int .i64 v0) (.int .i64 0) (.int .i64 0) (.bool false) (.int .i64 0) (.int .i64 0) (.int .i64 0) (.int .i64 0) (.int .i64 0) (.int .i64 0) (.int .i64 v3) (.int .i64 v4)) := st12_below M4.out.bl (by rw [HG.out]; omega)
    have f3 : Blk (st12 wF gR (.int .i64 v0) (.int .i64 0) (.int .i64 0) (.bool false) (.int .i64 0) (.int .i64 0) (.int .i64 0) (.int .i64 0) (.int .i64 0) (.int .i64 0) (.int .i64 v3) (.int .i64 v4)) gR 25 #[.int .i64 v0, .int .i64 0, .int .i64 0, .bool false, .int .i64 0, .int .i64 0, .int .i64 0, .int .i64 0, .int .i64 0, .int .i64 0, .int .i64 v3, .int .i64 v4] := st12_blk M4.out.res
    have hfin : MadeRq l w (.returned (.tuple #[.agg #[.int .i64 v0, .int .i64 0, .int .i64 0, .bool false, .int .i64 0, .int .i64 0, .int .i64 0, .int .i64 0, .int .i64 0, .int .i64 0, .int .i64 v3, .int .i64 v4], .int .i64 ((l.length : Int) - l4.length)])) ((st12 wF gR (.int .i64 v0) (.int .i64 0) (.int .i64 0) (.bool false) (.int .i64 0) (.int .i64 0) (.int .i64 0) (.int .i64 0) (.int .i64 0) (.int .i64 0) (.int .i64 v3) (.int .i64 v4)).drew) := ⟨_, _, _, hQ.out, .inr ⟨⟨HBF.out, h6'.out⟩, rfl⟩, f2.drew⟩
    clear f2
    go_upto_region 19 with fail
    go_region
    go_wp2_with fail
    obtain ⟨d0, d1, d2, d3, d4, d5, d6, d7, d8, d9, d10, d11⟩ := c12_of (blk_drew f3)
    unfold st12 at d0 d1 d2 d3 d4 d5 d6 d7 d8 d9 d10 d11 hfin
    exact bodyPost_ret (v := .tuple #[.agg #[.int .i64 v0, .int .i64 0, .int .i64 0, .bool false, .int .i64 0, .int .i64 0, .int .i64 0, .int .i64 0, .int .i64 0, .int .i64 0, .int .i64 v3, .int .i64 v4], .int .i64 ((l.length : Int) - l4.length)]) (by simp [results, Try.results15, go_sem, d0, d1, d2, d3, d4, d5, d6, d7, d8, d9, d10, d11]) rfl hfin
  have q6 : (v0 == 6) = false := beq_eq_false_iff_ne.2 k6
  have k5 : Hid (v0 ≠ 0 ∧ v0 ≠ 1 ∧ v0 ≠ 3 ∧ v0 ≠ 2 ∧ v0 ≠ 6) := ⟨k0, k1, k3, k2, k6⟩
  clear k0 k1 k3 k2 k6
  have hQ : Hid (FirQ l ⟨v0, 0, 0, false, 0, 0, 0, 0, 0, 0, 0, 0⟩ l1 b1) := ⟨_, HT1.out.symm, .inr (.inr (.inr (.inr ⟨k5.out, rfl, rfl, rfl⟩)))⟩
  clear j0 j1 j2 j3 j4 j5 j6 j7 j8 j9 j10 j11
  have i0 := M0.out.var.cell 0
  simp only [List.getElem?_toArray, List.getElem?_cons_zero, List.getElem?_cons_succ] at i0
  go_upto_region 17 with fail
  clear i0
  generalize w2 = wF at M0 ⊢
  obtain ⟨A5, c5, hb5, hB5, hby5, hlc5, hc5, hl5⟩ := M0.out.rdr
  have e0 : wF.cell? ⟨gD, 0, none⟩ = some (.slice A5 l1.length c5) := hb5.cell 0
  have e1 : wF.cell? ⟨gD, 1, none⟩ = some (.bool b1) := hb5.cell 1
  obtain ⟨j0, j1, j2, j3, j4, j5, j6, j7, j8, j9, j10, j11⟩ := c12_of M0.out.var
  obtain ⟨z0, z1, z2, z3, z4, z5, z6, z7, z8, z9, z10, z11, y0, y1, y2, y3, y4, y5, y6, y7, y8, y9, y10, y11⟩ := z12_of M0.out.res
  have n1 : gR ≠ gD := by have := M0.out.h2; omega
  have n2 : gD ≠ gR := by have := M0.out.h2; omega
  have n3 : gR ≠ gM := by have := M0.out.h2; have := M0.out.h3; omega
  have n4 : gM ≠ gR := by have := M0.out.h2; have := M0.out.h3; omega
  by_cases hbb : b1 = true
  · have hbb' : Hid (b1 = true) := hbb
    rw [hbb] at e1
    clear hbb
    have f2 : Below w.heap.size w (st12 wF gR (.int .i64 0) (.int .i64 0) (.int .i64 0) (.bool false) (.int .i64 0) (.int .i64 0) (.int .i64 0) (.int .i64 0) (.int .i64 0) (.int .i64 0) (.int .i64 0) (.int .i64 0)) := st12_below M0.out.bl (by rw [HG.out]; omega)
    have f3 : Blk (st12 wF gR (.int .i64 0) (.int .i64 0) (.int .i64 0) (.bool false) (.int .i64 0) (.int .i64 0) (.int .i64 0) (.int .i64 0) (.int .i64 0) (.int .i64 0) (.int .i64 0) (.int .i64 0)) gR 25 #[.int .i64 0, .int .i64 0, .int .i64 0, .bool false, .int .i64 0, .int .i64 0, .int .i64 0, .int .i64 0, .int .i64 0, .int .i64 0, .int .i64 0, .int .i64 0] := st12_blk M0.out.res
    have hfin : MadeRq l w (.returned (.tuple #[.agg #[.int .i64 0, .int .i64 0, .int .i64 0, .bool false, .int .i64 0, .int .i64 0, .int .i64 0, .int .i64 0, .int .i64 0, .int .i64 0, .int .i64 0, .int .i64 0], .int .i64 0])) (st12 wF gR (.int .i64 0) (.int .i64 0) (.int .i64 0) (.bool false) (.int .i64 0) (.int .i64 0) (.int .i64 0) (.int .i64 0) (.int .i64 0) (.int .i64 0) (.int .i64 0) (.int .i64 0)) := ⟨_, _, _, hQ.out, .inl ⟨.inl hbb'.out, rfl⟩, f2⟩
    clear f2
    go_wp2_with fail
    obtain ⟨d0, d1, d2, d3, d4, d5, d6, d7, d8, d9, d10, d11⟩ := c12_of f3
    unfold st12 at d0 d1 d2 d3 d4 d5 d6 d7 d8 d9 d10 d11 hfin
    exact bodyPost_ret (v := .tuple #[.agg #[.int .i64 0, .int .i64 0, .int .i64 0, .bool false, .int .i64 0, .int .i64 0, .int .i64 0, .int .i64 0, .int .i64 0, .int .i64 0, .int .i64 0, .int .i64 0], .int .i64 0]) (by simp [results, Try.results15, go_sem, d0, d1, d2, d3, d4, d5, d6, d7, d8, d9, d10, d11]) rfl hfin
  have hbf : b1 = false := by simpa using hbb
  have HBF := Lib.hid hbf
  rw [hbf] at e1
  clear hbb hbf
  by_cases h6 : 6 < v0
  · have t6 : decide (6 < v0) = true := decide_eq_true h6
    have h6' : Hid (6 < v0) := h6
    clear h6
    have f2 : Below w.heap.size w (st12 wF gR (.int .i64 0) (.int .i64 0) (.int .i64 0) (.bool false) (.int .i64 0) (.int .i64 0) (.int .i64 0) (.int .i64 0) (.int .i64 0) (.int .i64 0) (.int .i64 0) (.int .i64 0)) := st12_below M0.out.bl (by rw [HG.out]; omega)
    have f3 : Blk (st12 wF gR (.int .i64 0) (.int .i64 0) (.int .i64 0) (.bool false) (.int .i64 0) (.int .i64 0) (.int .i64 0) (.int .i64 0) (.int .i64 0) (.int .i64 0) (.int .i64 0) (.int .i64 0)) gR 25 #[.int .i64 0, .int .i64 0, .int .i64 0, .bool false, .int .i64 0, .int .i64 0, .int .i64 0, .int .i64 0, .int .i64 0, .int .i64 0, .int .i64 0, .int .i64 0] := st12_blk M0.out.res
    have hfin : MadeRq l w (.returned (.tuple #[.agg #[.int .i64 0, .int .i64 0, .int .i64 0, .bool false, .int .i64 0, .int .i64 0, .int .i64 0, .int .i64 0, .int .i64 0, .int .i64 0, .int .i64 0, .int .i64 0], .int .i64 0])) (st12 wF gR (.int .i64 0) (.int .i64 0) (.int .i64 0) (.bool false) (.int .i64 0) (.int .i64 0) (.int .i64 0) (.int .i64 0) (.int .i64 0) (.int .i64 0) (.int .i64 0) (.int .i64 0)) := ⟨_, _, _, hQ.out, .inl ⟨.inr h6'.out, rfl⟩, f2⟩
    clear f2
    go_wp2_with fail
    obtain ⟨d0, d1, d2, d3, d4, d5, d6, d7, d8, d9, d10, d11⟩ := c12_of f3
    unfold st12 at d0 d1 d2 d3 d4 d5 d6 d7 d8 d9 d10 d11 hfin
    exact bodyPost_ret (v := .tuple #[.agg #[.int .i64 0, .int .i64 0, .int .i64 0, .bool false, .int .i64 0, .int .i64 0, .int .i64 0, .int .i64 0, .int .i64 0, .int .i64 0, .int .i64 0, .int .i64 0], .int .i64 0]) (by simp [results, Try.results15, go_sem, d0, d1, d2, d3, d4, d5, d6, d7, d8, d9, d10, d11]) rfl hfin
  have t6 : decide (6 < v0) = false := decide_eq_false h6
  have h6' : Hid (v0 ≤ 6) := by show _ ≤ _; omega
  clear h6
  have f2 : Below w.heap.size w (st12 wF gR (.int .i64 v0) (.int .i64 0) (.int .i64 0) (.bool false) (.int .i64 0) (.int .i64 0) (.int .i64 0) (.int .i64 0) (.int .i64 0) (.int .i64 0) (.int .i64 0) (.int .i64 0)) := st12_below M0.out.bl (by rw [HG.out]; omega)
  have f3 : Blk (st12 wF gR (.int .i64 v0) (.int .i64 0) (.int .i64 0) (.bool false) (.int .i64 0) (.int .i64 0) (.int .i64 0) (.int .i64 0) (.int .i64 0) (.int .i64 0) (.int .i64 0) (.int .i64 0)) gR 25 #[.int .i64 v0, .int .i64 0, .int .i64 0, .bool false, .int .i64 0, .int .i64 0, .int .i64 0, .int .i64 0, .int .i64 0, .int .i64 0, .int .i64 0, .int .i64 0] := st12_blk M0.out.res
  have hfin : MadeRq l w (.returned (.tuple #[.agg #[.int .i64 v0, .int .i64 0, .int .i64 0, .bool false, .int .i64 0, .int .i64 0, .int .i64 0, .int .i64 0, .int .i64 0, .int .i64 0, .int .i64 0, .int .i64 0], .int .i64 ((l.length : Int) - l1.length)])) ((st12 wF gR (.int .i64 v0) (.int .i64 0) (.int .i64 0) (.bool false) (.int .i64 0) (.int .i64 0) (.int .i64 0) (.int .i64 0) (.int .i64 0) (.int .i64 0) (.int .i64 0) (.int .i64 0)).drew) := ⟨_, _, _, hQ.out, .inr ⟨⟨HBF.out, h6'.out⟩, rfl⟩, f2.drew⟩
  clear f2
  go_upto_region 19 with fail
  go_region
  go_wp2_with fail
  obtain ⟨d0, d1, d2, d3, d4, d5, d6, d7, d8, d9, d10, d11⟩ := c12_of (blk_drew f3)
  unfold st12 at d0 d1 d2 d3 d4 d5 d6 d7 d8 d9 d10 d11 hfin
  exact bodyPost_ret (v := .tuple #[.agg #[.int .i64 v0, .int .i64 0, .int .i64 0, .bool false, .int .i64 0, .int .i64 0, .int .i64 0, .int .i64 0, .int .i64 0, .int .i64 0, .int .i64 0, .int .i64 0], .int .i64 ((l.length : Int) - l1.length)]) (by simp [results, Try.results15, go_sem, d0, d1, d2, d3, d4, d5, d6, d7, d8, d9, d10, d11]) rfl hfin
end Go.Proofs.Ytebnjhfmlihjcaa.Wrf
