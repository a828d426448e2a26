/- For every rate and slice of seconds the law BookRates returns true, and changes nothing: in each second as many orders come as the Rate, no more; none of an earlier one. No condition. -/
import Derived.Test.YtjabfbeioapiaaaBki
import Derived.Test.YtjabfbeioapiaaaBkt
import Derived.Test.YtjabfbeioapiaaaOpn
namespace Go.Proofs.Ytjabfbeioapiaaa.bookRates
set_option maxRecDepth 100000
open Go.ChangeShapes Go.WideShapes Go.ChangeAt Go.RowKit Mem Tre Ref3 Law3 Fix3 Opn Bnd Flo Cfg CrdB CrdC Rr4 Rul3 St7 Rul6 Fcf Fown Rul7 Tl5 Gdc Bkp Bks Bkf Bkh Bcl Dlk Stk Apt Bko Bku Bka Bkc Bkq Bki Bkj Bkt Go.Joins Go.Deep
set_option linter.unusedVariables false
set_option linter.unusedSimpArgs false

theorem own : ownKnob Try.prog.godebug = none := by kernel_rfl
theorem laidOut : laidOutB Try.prog = true := by kernel_rfl

theorem wrap_u64 (x : Int) : IntKind.u64.wrap x = x % 18446744073709551616 := by simp [IntKind.wrap, IntKind.bits, IntKind.signed]
theorem mod1000 (x : Int) : 0 ≤ wrap64 ((IntKind.u64.wrap x).tmod 1000) ∧ wrap64 ((IntKind.u64.wrap x).tmod 1000) < 1000 := by
  rw [wrap_u64, Int.tmod_eq_emod_of_nonneg (Int.emod_nonneg _ (by decide))]
  unfold wrap64
  omega
/-- the account's row, as the law counts -/
structure Iv (m nr : Nat) (last cnt : Int) (b : Bk) : Prop where
  fw : Fw m b
  nr : b.rows.length = nr
  sh : b.sh = 0
  sec : (gR b.rows 0).sec = last
  cnt : (gR b.rows 0).cnt = cnt
  ns : (gR b.rows 0).ns = []
theorem Iv_begin {n : Nat} (hn : n ≤ 1000) : Iv 0 n 0 0 (beginB n 0) := by
  have e : gR (List.replicate n ro0) 0 = ro0 := by
    cases n with
    | zero => rfl
    | succ n => simp [gR]
  refine ⟨Fw_begin hn (by decide) (by decide), by simp [beginB], rfl, ?_, ?_, ?_⟩
  · show (gR (List.replicate n ro0) 0).sec = _
    rw [e]; rfl
  · show (gR (List.replicate n ro0) 0).cnt = _
    rw [e]; rfl
  · show (gR (List.replicate n ro0) 0).ns = _
    rw [e]; rfl
theorem in10 : inI 10 := ⟨by decide, by decide⟩
theorem in1 : inI 1 := ⟨by decide, by decide⟩
theorem Iv_add {m nr : Nat} {last cnt : Int} {b : Bk} (h : Iv m nr last cnt b) (hnr : 0 < nr) (sk : Int) (i : Nat) (s : Int) (hs : inI s) : Iv (m + 1) nr s ((if last = s then cnt else 0) + 1) (addF sk ((0 : Nat) : Int) b ⟨((0 : Nat) : Int), 0, false, 10, 1, (i : Int), s⟩ 0) := by
  have hl : 0 < b.rows.length := by rw [h.nr]; exact hnr
  have e : gR (b.rows.set 0 (usedF (gR b.rows 0) (i : Int) s ((0 : Nat) : Int))) 0 = usedF (gR b.rows 0) (i : Int) s ((0 : Nat) : Int) := by simp [gR, hl]
  refine ⟨Fw_add h.fw sk _ _ 0 hs in10 in1, ?_, h.sh, ?_, ?_, ?_⟩
  · show (List.set _ _ _).length = _
    rw [List.length_set]; exact h.nr
  · show (gR (b.rows.set 0 (usedF (gR b.rows 0) (i : Int) s ((0 : Nat) : Int))) 0).sec = _
    rw [e]; rfl
  · show (gR (b.rows.set 0 (usedF (gR b.rows 0) (i : Int) s ((0 : Nat) : Int))) 0).cnt = _
    rw [e]
    show (if (gR b.rows 0).sec = s then (gR b.rows 0).cnt else 0) + 1 = _
    rw [h.sec, h.cnt]
  · show (gR (b.rows.set 0 (usedF (gR b.rows 0) (i : Int) s ((0 : Nat) : Int))) 0).ns = _
    rw [e]
    unfold usedF
    rw [h.ns]
    rfl
theorem look_iv {m nr : Nat} {last cnt : Int} {b : Bk} (h : Iv m nr last cnt b) (hnr : 0 < nr) (hm : m < 64) (ra : Int) (i : Nat) (s : Int) : lookF ra 64 b ⟨((0 : Nat) : Int), 0, false, 10, 1, (i : Int), s⟩ = if s < last then 10 else if s = last ∧ ra ≤ cnt then 10 else 0 := by
  have h0 : inQ b.rows.length ((0 : Nat) : Int) = true := inQ_t (by decide) (by rw [h.nr]; omega)
  unfold lookF
  simp only []
  rw [if_pos h0, Int.toNat_natCast, h.ns, h.sec, h.cnt]
  have h1 : ¬ (64 : Int) ≤ b.op.length := by have := h.fw.ol; omega
  simp [h1]
theorem Bm_st4 {w : World} {base gB : Nat} {A C : Option Addr} {rl : List Rc} {b : Bk} (h : Bm w A C rl b) (hf : Fb base A C rl) (hg : gB < base) (v0 v1 v2 v3 : Value) : Bm (st4 w gB v0 v1 v2 v3) A C rl b := by
  have k : ∀ {X : Option Addr} {xs : List Value}, Rd w w.heap.size X xs → (∀ a, X = some a → base ≤ a.block) → Rd (st4 w gB v0 v1 v2 v3) (st4 w gB v0 v1 v2 v3).heap.size X xs := by
    intro X xs hx hn
    have hne : ∀ a, X = some a → a.block ≠ gB := fun a ha => by have := hn a ha; omega
    unfold st4
    exact Rd.keep' (Rd.keep' (Rd.keep' (Rd.keep' hx (Nat.lt_succ_self _) hne _) (Nat.lt_succ_self _) hne _) (Nat.lt_succ_self _) hne _) (Nat.lt_succ_self _) hne _
  exact ⟨k h.r hf.1, h.e, fun i hi => k (h.n i hi) (hf.2.2 i hi), k h.o hf.2.1⟩
set_option maxHeartbeats 8000000 in
theorem inner (rate : Int) (A : Option Addr) (c : Nat) (l : List Int) (w : World) (hlc : l.length ≤ c) (hc : (c : Int) ≤ 9223372036854775807) (hr : Hid (Ris w w.heap.size A l)) :
    Calls Try.prog 3 #[.int .i64 rate, .slice A l.length c] w (MadeB true w) := by
  go_enter Try.func3, Try.ntmps3
  go_wp2_with fail
  refine (fixc_any 0 0 rate 0 none none none 0 0 0 [] [] [] _ Rd.nil Rd.nil Rd.nil (fun i hi => by simp at hi) (fun i hi => by simp at hi) (fun i hi => by simp at hi) (by decide) (by decide) (by decide)).mono ?_
  rintro e w1 ⟨sh, wi, ra, ta, nd, ac, sy, hgood, A1, B1, C1, c1, d1, f1, rfl, hn1, hu1, hs1, hb1⟩
  have HG := Lib.hid hgood
  have B1b := Lib.hid hb1
  obtain ⟨nl, hnl⟩ : ∃ n, n = nd.length := ⟨_, rfl⟩
  obtain ⟨al, hal⟩ : ∃ n, n = ac.length := ⟨_, rfl⟩
  obtain ⟨sl, hsl⟩ : ∃ n, n = sy.length := ⟨_, rfl⟩
  have hnl9 : nl ≤ 10 := by rw [hnl]; exact hgood.n2
  have hal9 : al ≤ 5 := by rw [hal]; exact hgood.a2
  have hal1 : 0 < al := by rw [hal]; exact hgood.a1
  have hsl9 : sl ≤ 3 := by rw [hsl]; exact hgood.s2
  have HN := Lib.hid hn1
  have HU := Lib.hid hu1
  have HS := Lib.hid hs1
  have TX := fun W h1 h2 h3 => to5_any sh 0 ra 64 A1 B1 C1 c1 d1 f1 nd ac sy W h1 h2 h3 (Lib.hid hgood.wn) (by omega) (by omega) (by omega)
  unfold MadeCf at TX
  rw [← hnl, ← hal, ← hsl] at TX ⊢
  clear hnl hal hsl hgood hn1 hu1 hs1 hb1
  have U2 : Hid (Below w1.heap.size w1 (w1.alloc (.cells #[.int .i64 sh, .int .i64 0, .int .i64 ra, .int .i64 64, .slice A1 nl c1, .slice B1 al d1, .slice C1 sl f1] 27))) := (Below.refl _ _).alloc (Nat.le_refl _) _
  have K2 : Hid (Blk (w1.alloc (.cells #[.int .i64 sh, .int .i64 0, .int .i64 ra, .int .i64 64, .slice A1 nl c1, .slice B1 al d1, .slice C1 sl f1] 27)) w1.heap.size 27 #[.int .i64 sh, .int .i64 0, .int .i64 ra, .int .i64 64, .slice A1 nl c1, .slice B1 al d1, .slice C1 sl f1]) := Blk.fresh _ _ _
  go_upto_region 3 with fail
  have HN2 := Lib.hid (Rd.below' HN.out U2.out U2.out.size)
  have HU2 := Lib.hid (Rd.below' HU.out U2.out U2.out.size)
  have HS2 := Lib.hid (Rd.below' HS.out U2.out U2.out.size)
  have B2b := Lib.hid (below_step B1b.out U2.out)
  have hgC0 : Hid (w.heap.size ≤ w1.heap.size) := B1b.out.size
  clear U2 HN HU HS B1b
  generalize w1.alloc (.cells #[.int .i64 sh, .int .i64 0, .int .i64 ra, .int .i64 64, .slice A1 nl c1, .slice B1 al d1, .slice C1 sl f1] 27) = w2 at K2 HN2 HU2 HS2 B2b ⊢
  generalize w1.heap.size = gC at K2 hgC0 ⊢
  obtain ⟨k0, k1, k2, k3, k4, k5, k6⟩ := c7_of K2.out
  go_wp2_with fail
  refine (TX _ HN2 HU2 HS2).mono ?_
  rintro e w3 ⟨A2, B2, C2, c2, d2, f2, rfl, hn3, hu3, hs3, hb3⟩
  have U3 : Hid (Below w2.heap.size w2 (w3.alloc (.cells #[.int .i64 sh, .int .i64 0, .int .i64 ra, .int .i64 64, .slice A2 nl c2, .slice B2 al d2, .slice C2 sl f2] 32))) := hb3.alloc hb3.size _
  have X3 : Hid (Blk (w3.alloc (.cells #[.int .i64 sh, .int .i64 0, .int .i64 ra, .int .i64 64, .slice A2 nl c2, .slice B2 al d2, .slice C2 sl f2] 32)) w3.heap.size 32 #[.int .i64 sh, .int .i64 0, .int .i64 ra, .int .i64 64, .slice A2 nl c2, .slice B2 al d2, .slice C2 sl f2]) := Blk.fresh _ _ _
  have K3 := Lib.hid (Blk.below' K2.out U3.out)
  have B3b := Lib.hid (below_step B2b.out U3.out)
  have hneC : Hid (gC < w3.heap.size) := Nat.lt_of_lt_of_le K2.out.lt hb3.size
  clear hn3 hu3 hs3 hb3 TX HN2 HU2 HS2 B2b k0 k1 k2 k3 k4 k5 k6 K2 U3
  go_upto_region 4 with fail
  generalize w3.alloc (.cells #[.int .i64 sh, .int .i64 0, .int .i64 ra, .int .i64 64, .slice A2 nl c2, .slice B2 al d2, .slice C2 sl f2] 32) = w4 at X3 K3 B3b ⊢
  generalize w3.heap.size = gX at X3 hneC ⊢
  obtain ⟨k0, k1, k2, k3, k4, k5, k6⟩ := c7_of X3.out
  go_wp2_with fail
  refine (bbegin_any sh 0 ra 64 A2 B2 C2 nl al sl c2 d2 f2 0 _ (by omega)).mono ?_
  rintro e w5 ⟨A0, C0, c0, d0, rl0, he, hm0, hb5⟩
  have hbk : bkA A0 C0 c0 d0 (beginF al 0) = .agg #[.int .i64 0, .int .i64 0, .slice A0 al c0, .slice C0 0 d0] := by unfold bkA beginF; simp
  rw [hbk] at he
  subst he
  have hm0' : Bm w5 A0 C0 rl0 (beginB al 0) := hm0
  have U5 : Hid (Below w4.heap.size w4 (w5.alloc (.cells #[.int .i64 0, .int .i64 0, .slice A0 al c0, .slice C0 0 d0] 37))) := hb5.alloc hb5.size _
  have Y5 : Hid (BkV (w5.alloc (.cells #[.int .i64 0, .int .i64 0, .slice A0 al c0, .slice C0 0 d0] 37)) w5.heap.size A0 C0 0 0 al 0 c0 d0 rl0 (beginB al 0)) := BkV.new hm0'
  have X5 := Lib.hid (Blk.below' X3.out U5.out)
  have K5 := Lib.hid (Blk.below' K3.out U5.out)
  have B5b := Lib.hid (below_step B3b.out U5.out)
  have hneX : Hid (gX < w5.heap.size) := Nat.lt_of_lt_of_le X3.out.lt hb5.size
  have hB5 : Hid (w.heap.size ≤ w5.heap.size) := Nat.le_trans B3b.out.size hb5.size
  clear k0 k1 k2 k3 k4 k5 k6 hbk hm0 hm0' hb5 U5 X3 K3 B3b
  go_upto_region 5 with fail
  generalize w5.alloc (.cells #[.int .i64 0, .int .i64 0, .slice A0 al c0, .slice C0 0 d0] 37) = w6 at Y5 X5 K5 B5b ⊢
  generalize w5.heap.size = gB at Y5 hneX hB5 ⊢
  have IV0 := Lib.hid (Iv_begin (n := al) (by omega))
  have HG2 : Hid (1 ≤ sh ∧ sh ≤ 3 ∧ 1 ≤ ra ∧ ra ≤ 6) := ⟨HG.out.h1, HG.out.h2, HG.out.r1, HG.out.r2⟩
  have NE : Hid (gC ≠ gB ∧ gX ≠ gB) := ⟨by have := hneC.out; have := hneX.out; omega, by have := hneX.out; omega⟩
  clear HG hneC
  go_wp2_with fail
  go_loopg [8, 9, 10] 60 (fun q s8 s9 s10 w' => ∃ (i : Nat) (last cnt ca : Int) (A C : Option Addr) (no c d : Nat) (rl : List Rc) (bk : Bk), i + q = 60 ∧ s8 = .int .i64 last ∧ s9 = .int .i64 cnt ∧ s10 = .int .i64 i ∧ Hid (Iv i al last cnt bk) ∧ Hid (0 = bk.sh ∧ ca = bk.ca) ∧ Hid (no = bk.op.length) ∧ Hid (BkV w' gB A C 0 ca al no c d rl bk) ∧ Hid (Blk w' gX 32 #[.int .i64 sh, .int .i64 0, .int .i64 ra, .int .i64 64, .slice A2 nl c2, .slice B2 al d2, .slice C2 sl f2]) ∧ Hid (Blk w' gC 27 #[.int .i64 sh, .int .i64 0, .int .i64 ra, .int .i64 64, .slice A1 nl c1, .slice B1 al d1, .slice C1 sl f1]) ∧ Hid (Below w.heap.size w w'))
  case atStart => exact ⟨0, 0, 0, 0, A0, C0, 0, c0, d0, rl0, beginB al 0, by omega, rfl, rfl, rfl, IV0, ⟨rfl, rfl⟩, rfl, Y5, X5, K5, B5b⟩
  case round =>
    clear IV0 Y5 X5 K5 B5b
    obtain ⟨i, last, cnt, ca, Ab, Cb, no, cb, db, rl, bk, hq, rfl, rfl, rfl, IV, HSH, HNO, Y, X, K, BB⟩ := hrel
    by_cases hlt : i < l.length
    · have t0 : decide ((i : Int) < (l.length : Int)) = true := by simp; omega
      by_cases h60 : i < 60
      · obtain ⟨q, rfl⟩ : ∃ q, gk = q + 1 := ⟨gk - 1, by omega⟩
        have t1 : decide ((i : Int) < 60) = true := by simp; omega
        obtain ⟨b, o, hA, hb, hcell⟩ := Ris.at (i := i) hr.out hlt
        subst hA
        have hc0 : wr.cell? ⟨b, o + i, none⟩ = some (.int .i64 (gI l i)) := (BB.out.cell (p := ⟨b, o + i, none⟩) hb).trans (hcell i hlt)
        have hm5 := mod1000 (gI l i)
        have hcell' := Lib.hid hcell
        clear hcell
        go_upto_region 10 with fail
        generalize wrap64 ((IntKind.u64.wrap (gI l i)).tmod 1000) = s at hm5 ⊢
        clear hc0
        go_wp2_with fail
        refine (order_any 0 0 false 10 1 (i : Int) s _).mono ?_
        rintro e w7 ⟨rfl, hb7⟩
        have U7 : Hid (Below wr.heap.size wr (w7.alloc (.cells #[.int .i64 0, .int .i64 0, .bool false, .int .i64 10, .int .i64 1, .int .i64 (i : Int), .int .i64 s] 41))) := hb7.alloc hb7.size _
        have O7 : Hid (Blk (w7.alloc (.cells #[.int .i64 0, .int .i64 0, .bool false, .int .i64 10, .int .i64 1, .int .i64 (i : Int), .int .i64 s] 41)) w7.heap.size 41 #[.int .i64 0, .int .i64 0, .bool false, .int .i64 10, .int .i64 1, .int .i64 (i : Int), .int .i64 s]) := Blk.fresh _ _ _
        have Y7 := Lib.hid (Y.out.below U7.out)
        have X7 := Lib.hid (Blk.below' X.out U7.out)
        have K7 := Lib.hid (Blk.below' K.out U7.out)
        have B7 := Lib.hid (below_step BB.out U7.out)
        have hneO : Hid (w7.heap.size ≠ gB) := by show _ ≠ _; have h1 := Y.out.blk.lt; have h2 := hb7.size; omega
        clear hb7 U7 Y X K BB
        go_upto_region 11 with fail
        generalize w7.alloc (.cells #[.int .i64 0, .int .i64 0, .bool false, .int .i64 10, .int .i64 1, .int .i64 (i : Int), .int .i64 s] 41) = w8 at O7 Y7 X7 K7 B7 ⊢
        generalize w7.heap.size = gO at O7 hneO ⊢
        obtain ⟨e0, e1, e2, e3, e4, e5, e6⟩ := c7_of X7.out
        obtain ⟨k0, k1, k2, k3, k4, k5, k6⟩ := c7_of K7.out
        obtain ⟨y0, y1, y2, y3⟩ := q4_of Y7.out.blk
        obtain ⟨o0, o1, o2, o3, o4, o5, o6⟩ := q7_of O7.out
        have FEW := Lib.hid (IV.out.fw.few (by omega))
        have LK := look_any sh 0 ra 64 A2 B2 C2 nl al sl c2 d2 f2 Ab Cb al no cb db rl bk ⟨((0 : Nat) : Int), 0, false, 10, 1, (i : Int), s⟩ w8 0 ca HSH (Lib.hid IV.out.nr.symm) HNO Y7.out.bm FEW
        rw [look_iv IV.out hal1 (by omega) ra i s, show odA ⟨((0 : Nat) : Int), 0, false, 10, 1, (i : Int), s⟩ = .agg #[.int .i64 0, .int .i64 0, .bool false, .int .i64 10, .int .i64 1, .int .i64 (i : Int), .int .i64 s] from rfl] at LK
        by_cases hgt : last < s
        · have g1 : decide (last < s) = true := by simp [hgt]
          have hne : ¬ last = s := by omega
          rw [if_neg (by omega), if_neg (by omega)] at LK
          go_upto_region 13 with (go_at_call 9; refine LK.mono ?_; rintro e w9 ⟨rfl, hb9⟩)
          have Y9 := Lib.hid (Y7.out.below hb9)
          have X9 := Lib.hid (Blk.below' X7.out hb9)
          have K9 := Lib.hid (Blk.below' K7.out hb9)
          have O9 := Lib.hid (Blk.below' O7.out hb9)
          have B9 := Lib.hid (below_step B7.out hb9)
          have IV9 := Lib.hid (Iv_add IV.out hal1 sh i s ⟨by omega, by omega⟩)
          have AX := add_any sh ra 64 0 A2 B2 C2 nl al sl c2 d2 f2 0 ca Ab Cb al no cb db rl bk 0 0 10 1 (i : Int) s false 0 w9 HSH (Lib.hid IV.out.nr.symm) HNO Y9.out.bm FEW HG2.out.1 (by have := HG2.out.2.1; omega) (by decide) hal1
          obtain ⟨bk2, hbk2⟩ : ∃ b, b = addF sh ((0 : Nat) : Int) bk ⟨((0 : Nat) : Int), 0, false, 10, 1, (i : Int), s⟩ 0 := ⟨_, rfl⟩
          rw [← hbk2] at AX IV9
          rw [show ((0 : Nat) : Int) = 0 from rfl] at AX
          generalize hid : bk.sh + sh * bk.ca = idv at AX
          clear hid hbk2 e0 e1 e2 e3 e4 e5 e6 k0 k1 k2 k3 k4 k5 k6 y0 y1 y2 y3 o0 o1 o2 o3 o4 o5 o6 hb9 LK Y7 X7 K7 O7 B7
          obtain ⟨e0, e1, e2, e3, e4, e5, e6⟩ := c7_of X9.out
          obtain ⟨y0, y1, y2, y3, f0, f1', f2', f3⟩ := z4_of Y9.out.blk
          obtain ⟨o0, o1, o2, o3, o4, o5, o6⟩ := q7_of O9.out
          obtain ⟨ca2, hca2⟩ : ∃ x, x = bk2.ca := ⟨_, rfl⟩
          obtain ⟨no2, hno2⟩ : ∃ x, x = bk2.op.length := ⟨_, rfl⟩
          have HCA := Lib.hid hca2
          have HNO2 := Lib.hid hno2
          have hbk : ∀ A3 C3 c3 d3, bkA A3 C3 c3 d3 bk2 = .agg #[.int .i64 0, .int .i64 ca2, .slice A3 al c3, .slice C3 no2 d3] := by intro A3 C3 c3 d3; unfold bkA; rw [hca2, hno2, IV9.out.sh, IV9.out.nr]
          unfold MadeB2 at AX
          simp only [hbk] at AX
          clear hca2 hno2 hbk
          go_upto_region 8 with (go_at_call 10; refine AX.mono ?_; rintro e w10 ⟨A3, C3, c3, d3, rl3, rfl, hm10, hf10, hb10⟩; have y10 := Blk.below' Y9.out.blk hb10; obtain ⟨p0, p1, p2, p3, q0, q1, q2, q3⟩ := z4_of y10)
          have hlt9 : gB < w9.heap.size := Y9.out.blk.lt
          have B11 : Hid (Below w.heap.size w ((((w10.setCell ⟨gB, 0, none⟩ (.int .i64 0)).setCell ⟨gB, 1, none⟩ (.int .i64 ca2)).setCell ⟨gB, 2, none⟩ (.slice A3 al c3)).setCell ⟨gB, 3, none⟩ (.slice C3 no2 d3))) := st4_below (below_step B9.out hb10) hB5.out
          have Y11 : Hid (BkV ((((w10.setCell ⟨gB, 0, none⟩ (.int .i64 0)).setCell ⟨gB, 1, none⟩ (.int .i64 ca2)).setCell ⟨gB, 2, none⟩ (.slice A3 al c3)).setCell ⟨gB, 3, none⟩ (.slice C3 no2 d3)) gB A3 C3 0 ca2 al no2 c3 d3 rl3 bk2) := ⟨st4_blk y10, Bm_st4 hm10 hf10 hlt9 _ _ _ _⟩
          have X11 : Hid (Blk ((((w10.setCell ⟨gB, 0, none⟩ (.int .i64 0)).setCell ⟨gB, 1, none⟩ (.int .i64 ca2)).setCell ⟨gB, 2, none⟩ (.slice A3 al c3)).setCell ⟨gB, 3, none⟩ (.slice C3 no2 d3)) gX 32 #[.int .i64 sh, .int .i64 0, .int .i64 ra, .int .i64 64, .slice A2 nl c2, .slice B2 al d2, .slice C2 sl f2]) := st4_far (Blk.below' X9.out hb10) NE.out.2
          have K11 : Hid (Blk ((((w10.setCell ⟨gB, 0, none⟩ (.int .i64 0)).setCell ⟨gB, 1, none⟩ (.int .i64 ca2)).setCell ⟨gB, 2, none⟩ (.slice A3 al c3)).setCell ⟨gB, 3, none⟩ (.slice C3 no2 d3)) gC 27 #[.int .i64 sh, .int .i64 0, .int .i64 ra, .int .i64 64, .slice A1 nl c1, .slice B1 al d1, .slice C1 sl f1]) := st4_far (Blk.below' K9.out hb10) NE.out.1
          clear p0 p1 p2 p3 q0 q1 q2 q3 y10 hm10 hf10 hb10 e0 e1 e2 e3 e4 e5 e6 y0 y1 y2 y3 f0 f1' f2' f3 o0 o1 o2 o3 o4 o5 o6 AX X9 K9 O9 Y9 B9
          generalize ((((w10.setCell ⟨gB, 0, none⟩ (.int .i64 0)).setCell ⟨gB, 1, none⟩ (.int .i64 ca2)).setCell ⟨gB, 2, none⟩ (.slice A3 al c3)).setCell ⟨gB, 3, none⟩ (.slice C3 no2 d3)) = w11 at B11 Y11 X11 K11 ⊢
          go_wp2_with fail
          go_roundg q
          case measure => omega
          case rel => exact ⟨i + 1, s, 1, ca2, A3, C3, no2, c3, d3, rl3, bk2, by omega, rfl, rfl, by go_num, (by rw [if_neg hne] at IV9; exact IV9), ⟨IV9.out.sh.symm, HCA.out⟩, HNO2, Y11, X11, K11, B11⟩
        · have g1 : decide (last < s) = false := by simp [hgt]
          by_cases hse : last = s
          · have g2 : (s == last) = true := by simp [hse]
            by_cases hra : cnt < ra
            · have g3 : decide (cnt < ra) = true := by simp [hra]
              rw [if_neg (by omega), if_neg (by omega)] at LK
              have ecn : wrap64 (cnt + 1) = cnt + 1 := by have h1 := HG2.out; unfold wrap64; have h2 := (gR_ok IV.out.fw.ro 0).2; rw [IV.out.cnt] at h2; omega
              have HSE := Lib.hid hse
              clear hse
              go_upto_region 13 with (go_at_call 9; refine LK.mono ?_; rintro e w9 ⟨rfl, hb9⟩)
              have Y9 := Lib.hid (Y7.out.below hb9)
              have X9 := Lib.hid (Blk.below' X7.out hb9)
              have K9 := Lib.hid (Blk.below' K7.out hb9)
              have O9 := Lib.hid (Blk.below' O7.out hb9)
              have B9 := Lib.hid (below_step B7.out hb9)
              have IV9 := Lib.hid (Iv_add IV.out hal1 sh i s ⟨by omega, by omega⟩)
              have AX := add_any sh ra 64 0 A2 B2 C2 nl al sl c2 d2 f2 0 ca Ab Cb al no cb db rl bk 0 0 10 1 (i : Int) s false 0 w9 HSH (Lib.hid IV.out.nr.symm) HNO Y9.out.bm FEW HG2.out.1 (by have := HG2.out.2.1; omega) (by decide) hal1
              obtain ⟨bk2, hbk2⟩ : ∃ b, b = addF sh ((0 : Nat) : Int) bk ⟨((0 : Nat) : Int), 0, false, 10, 1, (i : Int), s⟩ 0 := ⟨_, rfl⟩
              rw [← hbk2] at AX IV9
              rw [show ((0 : Nat) : Int) = 0 from rfl] at AX
              generalize hid : bk.sh + sh * bk.ca = idv at AX
              clear hid hbk2 e0 e1 e2 e3 e4 e5 e6 k0 k1 k2 k3 k4 k5 k6 y0 y1 y2 y3 o0 o1 o2 o3 o4 o5 o6 hb9 LK Y7 X7 K7 O7 B7
              obtain ⟨e0, e1, e2, e3, e4, e5, e6⟩ := c7_of X9.out
              obtain ⟨y0, y1, y2, y3, f0, f1', f2', f3⟩ := z4_of Y9.out.blk
              obtain ⟨o0, o1, o2, o3, o4, o5, o6⟩ := q7_of O9.out
              obtain ⟨ca2, hca2⟩ : ∃ x, x = bk2.ca := ⟨_, rfl⟩
              obtain ⟨no2, hno2⟩ : ∃ x, x = bk2.op.length := ⟨_, rfl⟩
              have HCA := Lib.hid hca2
              have HNO2 := Lib.hid hno2
              have hbk : ∀ A3 C3 c3 d3, bkA A3 C3 c3 d3 bk2 = .agg #[.int .i64 0, .int .i64 ca2, .slice A3 al c3, .slice C3 no2 d3] := by intro A3 C3 c3 d3; unfold bkA; rw [hca2, hno2, IV9.out.sh, IV9.out.nr]
              unfold MadeB2 at AX
              simp only [hbk] at AX
              clear hca2 hno2 hbk
              go_upto_region 8 with (go_at_call 10; refine AX.mono ?_; rintro e w10 ⟨A3, C3, c3, d3, rl3, rfl, hm10, hf10, hb10⟩; have y10 := Blk.below' Y9.out.blk hb10; obtain ⟨p0, p1, p2, p3, q0, q1, q2, q3⟩ := z4_of y10)
              have hlt9 : gB < w9.heap.size := Y9.out.blk.lt
              have B11 : Hid (Below w.heap.size w ((((w10.setCell ⟨gB, 0, none⟩ (.int .i64 0)).setCell ⟨gB, 1, none⟩ (.int .i64 ca2)).setCell ⟨gB, 2, none⟩ (.slice A3 al c3)).setCell ⟨gB, 3, none⟩ (.slice C3 no2 d3))) := st4_below (below_step B9.out hb10) hB5.out
              have Y11 : Hid (BkV ((((w10.setCell ⟨gB, 0, none⟩ (.int .i64 0)).setCell ⟨gB, 1, none⟩ (.int .i64 ca2)).setCell ⟨gB, 2, none⟩ (.slice A3 al c3)).setCell ⟨gB, 3, none⟩ (.slice C3 no2 d3)) gB A3 C3 0 ca2 al no2 c3 d3 rl3 bk2) := ⟨st4_blk y10, Bm_st4 hm10 hf10 hlt9 _ _ _ _⟩
              have X11 : Hid (Blk ((((w10.setCell ⟨gB, 0, none⟩ (.int .i64 0)).setCell ⟨gB, 1, none⟩ (.int .i64 ca2)).setCell ⟨gB, 2, none⟩ (.slice A3 al c3)).setCell ⟨gB, 3, none⟩ (.slice C3 no2 d3)) gX 32 #[.int .i64 sh, .int .i64 0, .int .i64 ra, .int .i64 64, .slice A2 nl c2, .slice B2 al d2, .slice C2 sl f2]) := st4_far (Blk.below' X9.out hb10) NE.out.2
              have K11 : Hid (Blk ((((w10.setCell ⟨gB, 0, none⟩ (.int .i64 0)).setCell ⟨gB, 1, none⟩ (.int .i64 ca2)).setCell ⟨gB, 2, none⟩ (.slice A3 al c3)).setCell ⟨gB, 3, none⟩ (.slice C3 no2 d3)) gC 27 #[.int .i64 sh, .int .i64 0, .int .i64 ra, .int .i64 64, .slice A1 nl c1, .slice B1 al d1, .slice C1 sl f1]) := st4_far (Blk.below' K9.out hb10) NE.out.1
              clear p0 p1 p2 p3 q0 q1 q2 q3 y10 hm10 hf10 hb10 e0 e1 e2 e3 e4 e5 e6 y0 y1 y2 y3 f0 f1' f2' f3 o0 o1 o2 o3 o4 o5 o6 AX X9 K9 O9 Y9 B9
              generalize ((((w10.setCell ⟨gB, 0, none⟩ (.int .i64 0)).setCell ⟨gB, 1, none⟩ (.int .i64 ca2)).setCell ⟨gB, 2, none⟩ (.slice A3 al c3)).setCell ⟨gB, 3, none⟩ (.slice C3 no2 d3)) = w11 at B11 Y11 X11 K11 ⊢
              go_wp2_with fail
              go_roundg q
              case measure => omega
              case rel => exact ⟨i + 1, last, (cnt + 1), ca2, A3, C3, no2, c3, d3, rl3, bk2, by omega, rfl, rfl, by go_num, (by rw [if_pos HSE.out] at IV9; rw [← HSE.out] at IV9; exact IV9), ⟨IV9.out.sh.symm, HCA.out⟩, HNO2, Y11, X11, K11, B11⟩
            · have g3 : decide (cnt < ra) = false := by simp [hra]
              rw [if_neg (by omega), if_pos (by omega)] at LK
              clear hse
              go_wp2_with (go_at_call 9; refine LK.mono ?_; rintro e w9 ⟨rfl, hb9⟩)
              have Y9 := Lib.hid (Y7.out.below hb9)
              have X9 := Lib.hid (Blk.below' X7.out hb9)
              have K9 := Lib.hid (Blk.below' K7.out hb9)
              have B9 := Lib.hid (below_step B7.out hb9)
              have IV9 : Hid (Iv (i + 1) al last cnt bk) := ⟨IV.out.fw.mono (by omega), IV.out.nr, IV.out.sh, IV.out.sec, IV.out.cnt, IV.out.ns⟩
              go_roundg q
              case measure => omega
              case rel => exact ⟨i + 1, last, cnt, ca, Ab, Cb, no, cb, db, rl, bk, by omega, rfl, rfl, by go_num, IV9, HSH, HNO, Y9, X9, K9, B9⟩
          · have g2 : (s == last) = false := by simp; omega
            rw [if_pos (by omega)] at LK
            go_wp2_with (go_at_call 9; refine LK.mono ?_; rintro e w9 ⟨rfl, hb9⟩)
            have Y9 := Lib.hid (Y7.out.below hb9)
            have X9 := Lib.hid (Blk.below' X7.out hb9)
            have K9 := Lib.hid (Blk.below' K7.out hb9)
            have B9 := Lib.hid (below_step B7.out hb9)
            have IV9 : Hid (Iv (i + 1) al last cnt bk) := ⟨IV.out.fw.mono (by omega), IV.out.nr, IV.out.sh, IV.out.sec, IV.out.cnt, IV.out.ns⟩
            go_roundg q
            case measure => omega
            case rel => exact ⟨i + 1, last, cnt, ca, Ab, Cb, no, cb, db, rl, bk, by omega, rfl, rfl, by go_num, IV9, HSH, HNO, Y9, X9, K9, B9⟩
      · have t1 : decide ((i : Int) < 60) = false := by simp; omega
        go_wp2_with fail
        refine (told7_any _).mono ?_
        rintro e w7 ⟨rfl, hb7⟩
        go_wp2_with fail
        go_ret
        exact madeB_mk rfl (below_step BB.out hb7)
    · have t0 : decide ((i : Int) < (l.length : Int)) = false := by simp; omega
      go_wp2_with fail
      refine (told7_any _).mono ?_
      rintro e w7 ⟨rfl, hb7⟩
      go_wp2_with fail
      go_ret
      exact madeB_mk rfl (below_step BB.out hb7)

set_option maxRecDepth 100000 in
theorem lifted (os : Os) (started : os.Started) (H : Type) (enc : TypeId × Value → H) :
    ReturnsInHanded {} Try.checked os 3 .any (Rows.bookRatesSpec.pre6 enc Try.prog Try.f3 Rows.bookRatesRow.domain false) (Rows.bookRatesSpec.post enc Try.prog Try.f3 false true false false) := by
  refine returnsInHanded_of_change (C := Try.checked) own started (by kernel_rfl) Try.func3
    (ChangeSpec.witness6 (enc := enc) (C := Try.checked) false ⟨#[], #[.int .i64 0, .slice none 0 0], []⟩ 8 (by kernel_rfl) (by kernel_rfl) (by kernel_rfl) (by kernel_rfl)) ?_
  intro W base args ds gs before hval0 hW hcnd _
  have hval : ∀ (j : Nat) t v, Try.f3.params[j]? = some t → args[j]? = some v → Value.okWide Try.prog W .any base t v := hval0
  have hW' := hW
  obtain ⟨p, q, hA0, hV, rfl, hfz, hnd⟩ := hW
  have hA : DataW.TrodAll enc Try.prog W 0 (fun _ => true) true Try.f3.params.toList args.toList ds p := hA0
  rw [Try.params3] at hA hval
  obtain ⟨v0, vs0, d0, ds0, p0, q0, hargs, rfl, rfl, h0, r0⟩ := trodAll_cons hA
  obtain ⟨v1, vs1, d1, ds1, p1, q1, rfl, rfl, rfl, h1, r1⟩ := trodAll_cons r0
  obtain ⟨rfl, rfl, rfl⟩ := trodAll_nil r1
  obtain rfl : args = #[v0, v1] := by cases args; simp_all
  obtain ⟨a0, rfl, _, _, w0⟩ := open_int Try.underlying3 (hval 0 3 v0 rfl rfl) h0
  obtain ⟨A0, n0, c0, rfl⟩ := okWide_slice Try.underlying22 (hval 1 _ v1 rfl rfl)
  obtain ⟨fu, h1'⟩ := h1
  obtain ⟨A, c, u, hv, hl, hm, hr, hwf⟩ := open_i64c (v := .slice A0 n0 c0) Try.underlying22 Try.underlying2 (by kernel_rfl) h1'
  cases hv
  unfold maxLen at hm
  refine (inner a0 A0 c0 u W hl (by omega) hr).mono fun e W' ⟨he, hb⟩ => ?_
  subst he
  exact ⟨_, rfl, law_post hW' rfl rfl rfl rfl (by kernel_rfl) Try.underlying4 (by rw [Try.params3]; simp only [List.mem_cons, List.not_mem_nil, or_false, forall_eq_or_imp, forall_eq]; exact ⟨⟨by kernel_rfl, of_decide_eq_true (by kernel_rfl)⟩, ⟨by kernel_rfl, of_decide_eq_true (by kernel_rfl)⟩⟩) laidOut hb⟩

theorem over : Rows.bookRatesRow.holds Try.pinned (OpenSpec.ofChange Rows.bookRatesSpec) :=
  OpenClaim.holds_of_wide 3 Try.f3 rfl rfl rfl rfl rfl rfl rfl ⟨rfl, rfl, rfl, rfl, rfl⟩ rfl rfl rfl rfl rfl (by kernel_rfl) Try.func3 (by kernel_rfl)
    (of_decide_eq_true (by kernel_rfl)) (by unfold Func.isWrapper; first | (rw [if_pos (by decide +kernel)]; kernel_rfl) | (rw [if_neg (by decide +kernel)]; exact ⟨rfl, rfl⟩))
    (fun os started H enc _ => lifted os started H enc)

theorem proved : Rows.BookRatesSaid := over
#print axioms proved
end Go.Proofs.Ytjabfbeioapiaaa.bookRates
