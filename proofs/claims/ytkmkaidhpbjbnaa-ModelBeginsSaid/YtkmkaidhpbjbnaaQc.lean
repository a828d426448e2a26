/- Texts side by side: each has its own first line. -/
import Derived.Laws.FloatArith
import Derived.WalkKit
import Derived.ProofKit
import Derived.OpenShut
import Derived.Lib.Hide
import Derived.WalkLawsBesides
import Derived.Laws.Externs
import Derived.ChangeSlices
import Derived.Lib.SmallJoins
import Derived.Test.YtkmkaidhpbjbnaaRows
import Derived.Test.YtkmkaidhpbjbnaaQa
import Derived.Test.YtkmkaidhpbjbnaaQb
/- Contracts of book's Fill, Ack and Cancel. Condition: the book lies in memory and is not long, what is left of its orders is a number of 64 bits. -/
namespace Go.Proofs.Ytkmkaidhpbjbnaa.Bkc
set_option maxRecDepth 100000
open Go.ChangeShapes Go.WideShapes Go.ChangeAt Go.RowKit Mem Tre Ref3 Law3 Crd CrdB CrdC Rr4 Bkp Bks Bkf Bcl Dlk Stk Apt Bko Bku Bka
set_option linter.unusedVariables false
set_option linter.unusedSimpArgs false
theorem ens_setL (l : List En) (i : Nat) (hi : i < l.length) (x : Int) : ens (l.set i (setL (gE l i) x)) = (ens l).set (i * 11 + 8) (.int .i64 x) := by
  induction l generalizing i with
  | nil => simp at hi
  | cons m l ih =>
    cases i with
    | zero => simp [ens, enV, gE, setL]
    | succ i =>
      have h := ih i (by simpa using hi)
      have e : ∀ l', ens (m :: l') = enV m ++ ens l' := fun _ => rfl
      have e1 : (i + 1) * 11 + 8 = (i * 11 + 8) + 1 + 1 + 1 + 1 + 1 + 1 + 1 + 1 + 1 + 1 + 1 := by omega
      have e2 : gE (m :: l) (i + 1) = gE l i := by simp [gE]
      simp only [List.set_cons_succ]
      rw [e, e, e1, e2, h]
      simp [enV]
theorem ens_setS (l : List En) (i : Nat) (hi : i < l.length) (x : Int) : ens (l.set i (setS (gE l i) x)) = (ens l).set (i * 11 + 9) (.int .i64 x) := by
  induction l generalizing i with
  | nil => simp at hi
  | cons m l ih =>
    cases i with
    | zero => simp [ens, enV, gE, setS]
    | succ i =>
      have h := ih i (by simpa using hi)
      have e : ∀ l', ens (m :: l') = enV m ++ ens l' := fun _ => rfl
      have e1 : (i + 1) * 11 + 9 = (i * 11 + 9) + 1 + 1 + 1 + 1 + 1 + 1 + 1 + 1 + 1 + 1 + 1 := by omega
      have e2 : gE (m :: l) (i + 1) = gE l i := by simp [gE]
      simp only [List.set_cons_succ]
      rw [e, e, e1, e2, h]
      simp [enV]
theorem delE_len (l : List En) (i : Nat) (hi : i < l.length) : (delE l i).length = i + (l.length - (i + 1)) := by
  unfold delE
  rw [List.length_append, List.length_take, List.length_drop]
  omega
/-- a book ahead of its answer -/
structure Be (w0 w : World) (gR nr cr : Nat) (A C : Option Addr) (rl : List Rc) (rows : List Ro) (op : List En) : Prop where
  r : w.ownsRow w0.heap.size 138 3 (.slice A nr cr) nr (rcs rl)
  o : Rd w w.heap.size C (ens op)
  oN : ∀ a, C = some a → a.block ≠ gR ∧ w0.heap.size ≤ a.block
  own : ∀ k, k < rl.length → OwR w0.heap.size w (gC rl k)
  e : rl.map Rc.r = rows
  b : Below w0.heap.size w0 w
theorem Be_fin {w0 w : World} {gR nr cr : Nat} {A C : Option Addr} {rl : List Rc} {rows : List Ro} {op : List En} (h : Be w0 w gR nr cr A C rl rows op) {u0 u1 u2 u3 : Value} (hk : Blk w gR 58 #[u0, u1, u2, u3]) (hgR : w0.heap.size ≤ gR) (v0 v1 v2 v3 : Value) (sh ca : Int) :
    Bm (Stk.st4 w gR v0 v1 v2 v3) A C rl ⟨sh, ca, rows, op⟩ ∧ Fb w0.heap.size A C rl ∧ Below w0.heap.size w0 (Stk.st4 w gR v0 v1 v2 v3) := by
  refine ⟨⟨Rd.of_own (own_st4 h.r hk (by decide)), h.e, fun k hk' => Rd.of_own (own_st4 (h.own k hk') hk (by decide)), ?_⟩, ⟨own_fresh h.r, fun a ha => (h.oN a ha).2, fun k hk' => own_fresh (h.own k hk')⟩, st4_below h.b hgR⟩
  have hne := fun a ha => (h.oN a ha).1
  unfold Stk.st4
  exact Rd.keep' (Rd.keep' (Rd.keep' (Rd.keep' h.o (Nat.lt_succ_self _) hne _) (Nat.lt_succ_self _) hne _) (Nat.lt_succ_self _) hne _) (Nat.lt_succ_self _) hne _
theorem Be_of {w0 w : World} {gR nr cr co : Nat} {A C : Option Addr} {rl : List Rc} {bk : Bk} {cs : Array Value} (h : Bo w0.heap.size w A C cr co rl bk) (hn : nr = bk.rows.length) (hk : Blk w gR 58 cs) (hb : Below w0.heap.size w0 w) : Be w0 w gR nr cr A C rl bk.rows bk.op := by
  subst hn
  refine ⟨h.r, Rd.of_own h.o, fun a ha => ⟨fun e => blk_own_ne hk h.o (by decide) ?_, own_fresh h.o a ha⟩, h.own, h.e, hb⟩
  rw [ha]
  simp [Value.ownBlock, e]
theorem Bo_setE {base : Nat} {w : World} {A : Option Addr} {go c d : Nat} {rl : List Rc} {bk : Bk} (h : Bo base w A (some ⟨go, 0, none⟩) c d rl bk) (j : Nat) (v : Value) (op' : List En) (hl : op'.length = bk.op.length) (he : ens op' = (ens bk.op).set j v) :
    Bo base (w.setCell ⟨go, j, none⟩ v) A (some ⟨go, 0, none⟩) c d rl ⟨bk.sh, bk.ca, bk.rows, op'⟩ := by
  obtain ⟨s1, g1⟩ := World.ownsRow.stored h.o j v
  refine ⟨own_grown h.r h.o (by decide) g1, ?_, h.e, fun k hk => own_grown (h.own k hk) h.o (by decide) g1, h.ap⟩
  show World.ownsRow _ _ _ _ _ op'.length (ens op')
  rw [he, hl]
  exact s1
theorem Be_del {w0 w w' : World} {gR gB nr cr co : Nat} {A : Option Addr} {go i : Nat} {rl : List Rc} {bk : Bk} {cs cb : Array Value} (h : Bo w0.heap.size w A (some ⟨go, 0, none⟩) cr co rl bk) (hn : nr = bk.rows.length) (hk : Blk w gR 58 cs) (hB : Blk w gB 58 cb) (hb : Below w0.heap.size w0 w)
    (hrd : Rd w' w'.heap.size (some ⟨go, 0, none⟩) ((ens bk.op).take (i * 11) ++ (ens bk.op).drop ((i + 1) * 11))) (hg : w.grownBy w' (some go)) (v : Value) (hgB : w0.heap.size ≤ gB) :
    Be w0 (w'.setCell ⟨gB, 3, none⟩ v) gR nr cr A (some ⟨go, 0, none⟩) rl bk.rows (delE bk.op i) := by
  subst hn
  have hneB : go ≠ gB := fun e => blk_own_ne hB h.o (by decide) (by rw [← e]; rfl)
  have hneR : go ≠ gR := fun e => blk_own_ne hk h.o (by decide) (by rw [← e]; rfl)
  have hB' : Blk w' gB 58 cb := Blk_grown hB hg (some_ne hneB)
  refine ⟨own_st (own_grown h.r h.o (by decide) hg) hB' (by decide) 3 _, ?_, ?_, fun k hk' => own_st (own_grown (h.own k hk') h.o (by decide) hg) hB' (by decide) 3 _, h.e, ?_⟩
  · rw [ens_take, ens_drop, ← ens_app] at hrd
    refine Rd.keep' hrd (Nat.lt_succ_self _) (fun a ha => ?_) _
    have e := Option.some.inj ha
    rw [← e]; exact hneB
  · intro a ha
    have e := Option.some.inj ha
    rw [← e]
    exact ⟨hneR, own_fresh h.o _ rfl⟩
  · exact (grown_below hb h.o hg (Nat.le_refl _) hb.size).setCell (p := ⟨gB, 3, none⟩) hgB _
set_option maxHeartbeats 8000000 in
theorem ack_any (sh ca : Int) (A C : Option Addr) (nr no c d : Nat) (rl : List Rc) (bk : Bk) (k : Int) (w : World) (hsh : Hid (sh = bk.sh ∧ ca = bk.ca)) (hnr : Hid (nr = bk.rows.length)) (hno : Hid (no = bk.op.length)) (hm : Hid (Bm w A C rl bk)) (hf : Hid (FewB bk)) :
    Calls Try.prog 59 #[.agg #[.int .i64 sh, .int .i64 ca, .slice A nr c, .slice C no d], .int .i64 k] w (MadeB2 (ackF bk k).1 (ackF bk k).2 w) := by
  have hl1 : nr ≤ 1000 := by rw [hnr.out]; exact hf.out.rl
  have hl2 : no ≤ 1000 := by rw [hno.out]; exact hf.out.ol
  have b0 : Hid (Below w.heap.size w ((w.alloc (.cells #[.int .i64 sh, .int .i64 ca, .slice A nr c, .slice C no d] 58)).alloc (.cells #[.int .i64 0, .int .i64 0, .slice none 0 0, .slice none 0 0] 58))) := ((Below.refl _ _).alloc (Nat.le_refl _) _).alloc (by simp) _
  have K0 : Hid (Blk ((w.alloc (.cells #[.int .i64 sh, .int .i64 ca, .slice A nr c, .slice C no d] 58)).alloc (.cells #[.int .i64 0, .int .i64 0, .slice none 0 0, .slice none 0 0] 58)) w.heap.size 58 #[.int .i64 sh, .int .i64 ca, .slice A nr c, .slice C no d]) := (Blk.fresh w _ _).alloc _
  have R0 : Hid (Blk ((w.alloc (.cells #[.int .i64 sh, .int .i64 ca, .slice A nr c, .slice C no d] 58)).alloc (.cells #[.int .i64 0, .int .i64 0, .slice none 0 0, .slice none 0 0] 58)) (w.heap.size + 1) 58 #[.int .i64 0, .int .i64 0, .slice none 0 0, .slice none 0 0]) := blk_hd (by simp)
  go_enter Try.func59, Try.ntmps59
  go_upto_region 1 with fail
  generalize ((w.alloc (.cells #[.int .i64 sh, .int .i64 ca, .slice A nr c, .slice C no d] 58)).alloc (.cells #[.int .i64 0, .int .i64 0, .slice none 0 0, .slice none 0 0] 58)) = w0 at b0 K0 R0 ⊢
  obtain ⟨gB, hgB⟩ : ∃ g, g = w.heap.size := ⟨_, rfl⟩
  obtain ⟨gZ, hgR⟩ : ∃ g, g = w.heap.size + 1 := ⟨_, rfl⟩
  have hBR : Hid (gZ ≠ gB) := by show _ ≠ _; omega
  have hLB : Hid (w.heap.size ≤ gB) := by show _ ≤ _; omega
  have hLR : Hid (w.heap.size ≤ gZ) := by show _ ≤ _; omega
  have J1 : Hid (Blk w0 gB 58 #[.int .i64 sh, .int .i64 ca, .slice A nr c, .slice C no d]) := by rw [hgB]; exact K0.out
  have J3 : Hid (Blk w0 gZ 58 #[.int .i64 0, .int .i64 0, .slice none 0 0, .slice none 0 0]) := by rw [hgR]; exact R0.out
  simp only [← hgR]
  simp only [← hgB]
  clear hgB hgR K0 R0
  obtain ⟨k0, k1, k2, k3⟩ := q4_of J1.out
  have HM : Hid (Bm w0 A C rl bk) := hm.out.below b0.out
  go_wp2_with fail
  refine (own_any sh ca A C nr no c d rl bk _ hsh hnr hno HM hf).mono ?_
  rintro e w2 ⟨Ar, Ao, cr, co, rl2, he, hbo, hb2⟩
  have hbk : bkA Ar Ao cr co bk = .agg #[.int .i64 sh, .int .i64 ca, .slice Ar nr cr, .slice Ao no co] := by unfold bkA; rw [hnr.out, hno.out, hsh.out.1, hsh.out.2]
  rw [hbk] at he
  subst he
  have HBO := Lib.hid (Bo_mono hbo b0.out.size)
  have HB2 := Lib.hid (below_step b0.out hb2)
  have L1 := Lib.hid (Blk.below' J1.out hb2)
  have L3 := Lib.hid (Blk.below' J3.out hb2)
  clear k0 k1 k2 k3 hb2 hbk hbo J1 J3 HM b0
  obtain ⟨k0, k1, k2, k3, f0, f1, f2, f3⟩ := z4_of L1.out
  have B3 : Hid (Bo w.heap.size ((((w2.setCell ⟨gB, 0, none⟩ (.int .i64 sh)).setCell ⟨gB, 1, none⟩ (.int .i64 ca)).setCell ⟨gB, 2, none⟩ (.slice Ar nr cr)).setCell ⟨gB, 3, none⟩ (.slice Ao no co)) Ar Ao cr co rl2 bk) := Bo_st4 HBO.out L1.out (by decide) (by decide) (by decide) _ _ _ _
  have P1 : Hid (Blk ((((w2.setCell ⟨gB, 0, none⟩ (.int .i64 sh)).setCell ⟨gB, 1, none⟩ (.int .i64 ca)).setCell ⟨gB, 2, none⟩ (.slice Ar nr cr)).setCell ⟨gB, 3, none⟩ (.slice Ao no co)) gB 58 #[.int .i64 sh, .int .i64 ca, .slice Ar nr cr, .slice Ao no co]) := st4_blk L1.out
  have P3 : Hid (Blk ((((w2.setCell ⟨gB, 0, none⟩ (.int .i64 sh)).setCell ⟨gB, 1, none⟩ (.int .i64 ca)).setCell ⟨gB, 2, none⟩ (.slice Ar nr cr)).setCell ⟨gB, 3, none⟩ (.slice Ao no co)) gZ 58 #[.int .i64 0, .int .i64 0, .slice none 0 0, .slice none 0 0]) := st4_far L3.out hBR.out
  have B3b : Hid (Below w.heap.size w ((((w2.setCell ⟨gB, 0, none⟩ (.int .i64 sh)).setCell ⟨gB, 1, none⟩ (.int .i64 ca)).setCell ⟨gB, 2, none⟩ (.slice Ar nr cr)).setCell ⟨gB, 3, none⟩ (.slice Ao no co))) := st4_below HB2.out hLB.out
  go_upto_region 2 with fail
  clear k0 k1 k2 k3 f0 f1 f2 f3 L1 L3 HBO HB2
  generalize ((((w2.setCell ⟨gB, 0, none⟩ (.int .i64 sh)).setCell ⟨gB, 1, none⟩ (.int .i64 ca)).setCell ⟨gB, 2, none⟩ (.slice Ar nr cr)).setCell ⟨gB, 3, none⟩ (.slice Ao no co)) = w3 at B3 P1 P3 B3b ⊢
  obtain ⟨k0, k1, k2, k3⟩ := q4_of P1.out
  have PLC := place_any sh ca Ar Ao nr no cr co bk.op k w3 hno (Rd.of_own (by have h := B3.out.o; exact h)) (by omega)
  by_cases hp : posE bk.op k < bk.op.length
  case neg =>
    rw [placeF_f hp] at PLC
    have HP := Lib.hid hp
    clear hp
    go_upto_region 3 with (go_at_call 81; refine PLC.mono ?_; rintro e w4 ⟨rfl, hb4⟩)
    have B4 : Hid (Bo w.heap.size w4 Ar Ao cr co rl2 bk) := ⟨own_below B3.out.r hb4, own_below B3.out.o hb4, B3.out.e, fun j hj => own_below (B3.out.own j hj) hb4, B3.out.ap⟩
    have P14 := Lib.hid (Blk.below' P1.out hb4)
    have P34 := Lib.hid (Blk.below' P3.out hb4)
    have B4b := Lib.hid (below_step B3b.out hb4)
    clear k0 k1 k2 k3 hb4 PLC
    have HF0 : Hid (ackF bk k = (⟨sh, ca, bk.rows, bk.op⟩, 15)) := by
      show _ = _
      unfold ackF
      rw [if_neg (show ¬ posE bk.op k < bk.op.length from by have := HP.out; omega), hsh.out.1, hsh.out.2]
    have F3 : Blk (st4 w4 gZ (.int .i64 sh) (.int .i64 ca) (.slice Ar nr cr) (.slice Ao no co)) gZ 58 #[.int .i64 sh, .int .i64 ca, .slice Ar nr cr, .slice Ao no co] := st4_blk P34.out
    have hfin : MadeB2 (ackF bk k).1 (ackF bk k).2 w (.returned (.tuple #[.agg #[.int .i64 sh, .int .i64 ca, .slice Ar nr cr, .slice Ao no co], .int .i64 15])) (st4 w4 gZ (.int .i64 sh) (.int .i64 ca) (.slice Ar nr cr) (.slice Ao no co)) := by
      obtain ⟨y1, y2, y3⟩ := Be_fin (Be_of B4.out hnr.out P34.out B4b.out) P34.out hLR.out (.int .i64 sh) (.int .i64 ca) (.slice Ar nr cr) (.slice Ao no co) sh ca
      rw [HF0.out]
      refine ⟨Ar, Ao, cr, co, rl2, ?_, y1, y2, y3⟩
      unfold bkA
      simp [hno.out, hnr.out]
    have HF := Lib.hid hfin
    clear hfin
    obtain ⟨k0, k1, k2, k3⟩ := q4_of P14.out
    obtain ⟨z0, z1, z2, z3, f0, f1, f2, f3⟩ := z4_of P34.out
    go_wp2_with fail
    obtain ⟨d0, d1, d2, d3⟩ := q4_of F3
    clear F3
    unfold st4 at d0 d1 d2 d3 HF
    exact bodyPost_ret (v := .tuple #[.agg #[.int .i64 sh, .int .i64 ca, .slice Ar nr cr, .slice Ao no co], .int .i64 15]) (by simp [results, Try.results59, go_sem, d0, d1, d2, d3]) rfl HF.out
  case pos =>
    rw [placeF_t hp] at PLC
    obtain ⟨go, hgo⟩ := own_at B3.out.o (by omega)
    subst hgo
    have HP := Lib.hid hp
    obtain ⟨i, hi⟩ : ∃ i, i = posE bk.op k := ⟨_, rfl⟩
    rw [← hi] at PLC
    have hil : i < bk.op.length := by rw [hi]; exact hp
    have hin : i < no := by rw [hno.out]; exact hil
    have HI := Lib.hid hi
    have HIL := Lib.hid hil
    have tne : ((i : Int) == -1) = false := by rw [beq_eq_false_iff_ne]; omega
    clear hp hi hil
    go_upto_region 3 with (go_at_call 81; refine PLC.mono ?_; rintro e w4 ⟨rfl, hb4⟩)
    have B4 : Hid (Bo w.heap.size w4 Ar (some ⟨go, 0, none⟩) cr co rl2 bk) := ⟨own_below B3.out.r hb4, own_below B3.out.o hb4, B3.out.e, fun j hj => own_below (B3.out.own j hj) hb4, B3.out.ap⟩
    have P14 := Lib.hid (Blk.below' P1.out hb4)
    have P34 := Lib.hid (Blk.below' P3.out hb4)
    have B4b := Lib.hid (below_step B3b.out hb4)
    clear k0 k1 k2 k3 hb4 PLC B3 P1 P3 B3b
    obtain ⟨_, _, hncap, hcapm, hroom, hcell⟩ := own_room B4.out.o
    rw [← hno.out] at hncap
    have c8 := hcell (i * 11 + 8) _ (ens_get bk.op i 8 HIL.out (by decide))
    have c9 := hcell (i * 11 + 9) _ (ens_get bk.op i 9 HIL.out (by decide))
    have g8 := (hroom (i * 11 + 8) (by omega)).2
    have g9 := (hroom (i * 11 + 9) (by omega)).2
    clear hroom hcell
    obtain ⟨E, hE⟩ : ∃ E, E = gE bk.op i := ⟨_, rfl⟩
    rw [← hE] at c8 c9
    have HE := Lib.hid hE
    clear hE
    obtain ⟨id, ⟨a, s, x, p, q', n, tt⟩, lf, st, ep⟩ := E
    replace c8 : w4.cell? ⟨go, i * 11 + 8, none⟩ = some (.int .i64 lf) := c8
    replace c9 : w4.cell? ⟨go, i * 11 + 9, none⟩ = some (.int .i64 st) := c9
    obtain ⟨k0, k1, k2, k3, f0, f1, f2, f3⟩ := z4_of P14.out
    by_cases hst : st = 1
    · have t1 : (st == 1) = true := by simp [hst]
      have HF0' : Hid (ackF bk k = (bk, 16)) := by
        show _ = _
        unfold ackF
        rw [if_pos HP.out, ← HI.out, ← HE.out, if_pos hst]
      clear hst
      go_upto_region 6 with fail
      clear k0 k1 k2 k3 f0 f1 f2 f3
      have HF0 : Hid (ackF bk k = (⟨sh, ca, bk.rows, bk.op⟩, 16)) := by
        show _ = _
        rw [HF0'.out, hsh.out.1, hsh.out.2]
      have F3 : Blk (st4 w4 gZ (.int .i64 sh) (.int .i64 ca) (.slice Ar nr cr) (.slice (some ⟨go, 0, none⟩) no co)) gZ 58 #[.int .i64 sh, .int .i64 ca, .slice Ar nr cr, .slice (some ⟨go, 0, none⟩) no co] := st4_blk P34.out
      have hfin : MadeB2 (ackF bk k).1 (ackF bk k).2 w (.returned (.tuple #[.agg #[.int .i64 sh, .int .i64 ca, .slice Ar nr cr, .slice (some ⟨go, 0, none⟩) no co], .int .i64 16])) (st4 w4 gZ (.int .i64 sh) (.int .i64 ca) (.slice Ar nr cr) (.slice (some ⟨go, 0, none⟩) no co)) := by
        obtain ⟨y1, y2, y3⟩ := Be_fin (Be_of B4.out hnr.out P34.out B4b.out) P34.out hLR.out (.int .i64 sh) (.int .i64 ca) (.slice Ar nr cr) (.slice (some ⟨go, 0, none⟩) no co) sh ca
        rw [HF0.out]
        refine ⟨Ar, (some ⟨go, 0, none⟩), cr, co, rl2, ?_, y1, y2, y3⟩
        unfold bkA
        simp [hno.out, hnr.out]
      have HF := Lib.hid hfin
      clear hfin
      obtain ⟨k0, k1, k2, k3⟩ := q4_of P14.out
      obtain ⟨z0, z1, z2, z3, f0, f1, f2, f3⟩ := z4_of P34.out
      go_wp2_with fail
      obtain ⟨d0, d1, d2, d3⟩ := q4_of F3
      clear F3
      unfold st4 at d0 d1 d2 d3 HF
      exact bodyPost_ret (v := .tuple #[.agg #[.int .i64 sh, .int .i64 ca, .slice Ar nr cr, .slice (some ⟨go, 0, none⟩) no co], .int .i64 16]) (by simp [results, Try.results59, go_sem, d0, d1, d2, d3]) rfl HF.out
    · have t1 : (st == 1) = false := by simp [hst]
      have HF0' : Hid (ackF bk k = (⟨bk.sh, bk.ca, bk.rows, delE bk.op i⟩, 0)) := by
        show _ = _
        unfold ackF
        rw [if_pos HP.out, ← HI.out, ← HE.out, if_neg hst]
      clear hst
      obtain ⟨no1, hno1⟩ : ∃ m, m = i + (no - (i + 1)) := ⟨_, rfl⟩
      have hcap : (co : Int) ≤ 9223372036854775807 := by unfold maxLen at hcapm; omega
      clear hcapm
      have D := deleteE go no co i (i + 1) (ens bk.op) w.heap.size w4 (by have h := B4.out.o; rw [← hno.out] at h; exact h) (ens_one _) (by omega) (by omega) hcap
      rw [← hno1, show ((i + 1 : Nat) : Int) = (i : Int) + 1 from rfl] at D
      have ei : wrap64 ((i : Int) + 1) = (i : Int) + 1 := by unfold wrap64; omega
      have HNO1 := Lib.hid hno1
      clear hno1
      go_upto_region 8 with (go_at_call 82; refine D.mono ?_; rintro e w5 ⟨rfl, hrd, hg5⟩; have k9 := Blk_grown P14.out hg5 (some_ne (fun e => blk_own_ne P14.out B4.out.o (by decide) (by rw [← e]; rfl))); obtain ⟨p0, p1, p2, p3, q0, q1, q2, q3⟩ := z4_of k9)
      have PB5 : Hid (Blk (w5.setCell ⟨gB, 3, none⟩ (.slice (some ⟨go, 0, none⟩) no1 co)) gB 58 #[.int .i64 sh, .int .i64 ca, .slice Ar nr cr, .slice (some ⟨go, 0, none⟩) no1 co]) := blk_st k9 3 _
      have PR5 : Hid (Blk (w5.setCell ⟨gB, 3, none⟩ (.slice (some ⟨go, 0, none⟩) no1 co)) gZ 58 #[.int .i64 0, .int .i64 0, .slice none 0 0, .slice none 0 0]) := far_st (Blk_grown P34.out hg5 (some_ne (fun e => blk_own_ne P34.out B4.out.o (by decide) (by rw [← e]; rfl)))) hBR.out _
      have BE5 : Hid (Be w (w5.setCell ⟨gB, 3, none⟩ (.slice (some ⟨go, 0, none⟩) no1 co)) gZ nr cr Ar (some ⟨go, 0, none⟩) rl2 bk.rows (delE bk.op i)) := Be_del B4.out hnr.out P34.out P14.out B4b.out hrd hg5 _ hLB.out
      clear p0 p1 p2 p3 q0 q1 q2 q3 k9 hrd hg5 D k0 k1 k2 k3 f0 f1 f2 f3
      generalize w5.setCell ⟨gB, 3, none⟩ (.slice (some ⟨go, 0, none⟩) no1 co) = w6 at PB5 PR5 BE5 ⊢
      have HF0 : Hid (ackF bk k = (⟨sh, ca, bk.rows, delE bk.op i⟩, 0)) := by
        show _ = _
        rw [HF0'.out, hsh.out.1, hsh.out.2]
      have HLN : Hid (no1 = (delE bk.op i).length) := by show _ = _; rw [delE_len _ _ HIL.out, ← hno.out]; exact HNO1.out
      have F3 : Blk (st4 w6 gZ (.int .i64 sh) (.int .i64 ca) (.slice Ar nr cr) (.slice (some ⟨go, 0, none⟩) no1 co)) gZ 58 #[.int .i64 sh, .int .i64 ca, .slice Ar nr cr, .slice (some ⟨go, 0, none⟩) no1 co] := st4_blk PR5.out
      have hfin : MadeB2 (ackF bk k).1 (ackF bk k).2 w (.returned (.tuple #[.agg #[.int .i64 sh, .int .i64 ca, .slice Ar nr cr, .slice (some ⟨go, 0, none⟩) no1 co], .int .i64 0])) (st4 w6 gZ (.int .i64 sh) (.int .i64 ca) (.slice Ar nr cr) (.slice (some ⟨go, 0, none⟩) no1 co)) := by
        obtain ⟨y1, y2, y3⟩ := Be_fin BE5.out PR5.out hLR.out (.int .i64 sh) (.int .i64 ca) (.slice Ar nr cr) (.slice (some ⟨go, 0, none⟩) no1 co) sh ca
        rw [HF0.out]
        refine ⟨Ar, (some ⟨go, 0, none⟩), cr, co, rl2, ?_, y1, y2, y3⟩
        unfold bkA
        simp [HLN.out, hnr.out]
      have HF := Lib.hid hfin
      clear hfin
      obtain ⟨k0, k1, k2, k3⟩ := q4_of PB5.out
      obtain ⟨z0, z1, z2, z3, f0, f1, f2, f3⟩ := z4_of PR5.out
      go_wp2_with fail
      obtain ⟨d0, d1, d2, d3⟩ := q4_of F3
      clear F3
      unfold st4 at d0 d1 d2 d3 HF
      exact bodyPost_ret (v := .tuple #[.agg #[.int .i64 sh, .int .i64 ca, .slice Ar nr cr, .slice (some ⟨go, 0, none⟩) no1 co], .int .i64 0]) (by simp [results, Try.results59, go_sem, d0, d1, d2, d3]) rfl HF.out
theorem gE_set (l : List En) (i : Nat) (hi : i < l.length) (x : En) : gE (l.set i x) i = x := by simp [gE, hi]
theorem delE_set (l : List En) (i : Nat) (x : En) : delE (l.set i x) i = delE l i := by
  unfold delE
  rw [List.take_set_of_le (Nat.le_refl _), List.drop_set_of_lt (Nat.lt_succ_self _)]
set_option maxHeartbeats 8000000 in
theorem cancel_any (sh ca : Int) (A C : Option Addr) (nr no c d : Nat) (rl : List Rc) (bk : Bk) (k : Int) (w : World) (hsh : Hid (sh = bk.sh ∧ ca = bk.ca)) (hnr : Hid (nr = bk.rows.length)) (hno : Hid (no = bk.op.length)) (hm : Hid (Bm w A C rl bk)) (hf : Hid (FewB bk)) :
    Calls Try.prog 55 #[.agg #[.int .i64 sh, .int .i64 ca, .slice A nr c, .slice C no d], .int .i64 k] w (MadeB2 (cancelF bk k).1 (cancelF bk k).2 w) := by
  have hl1 : nr ≤ 1000 := by rw [hnr.out]; exact hf.out.rl
  have hl2 : no ≤ 1000 := by rw [hno.out]; exact hf.out.ol
  have b0 : Hid (Below w.heap.size w ((w.alloc (.cells #[.int .i64 sh, .int .i64 ca, .slice A nr c, .slice C no d] 58)).alloc (.cells #[.int .i64 0, .int .i64 0, .slice none 0 0, .slice none 0 0] 58))) := ((Below.refl _ _).alloc (Nat.le_refl _) _).alloc (by simp) _
  have K0 : Hid (Blk ((w.alloc (.cells #[.int .i64 sh, .int .i64 ca, .slice A nr c, .slice C no d] 58)).alloc (.cells #[.int .i64 0, .int .i64 0, .slice none 0 0, .slice none 0 0] 58)) w.heap.size 58 #[.int .i64 sh, .int .i64 ca, .slice A nr c, .slice C no d]) := (Blk.fresh w _ _).alloc _
  have R0 : Hid (Blk ((w.alloc (.cells #[.int .i64 sh, .int .i64 ca, .slice A nr c, .slice C no d] 58)).alloc (.cells #[.int .i64 0, .int .i64 0, .slice none 0 0, .slice none 0 0] 58)) (w.heap.size + 1) 58 #[.int .i64 0, .int .i64 0, .slice none 0 0, .slice none 0 0]) := blk_hd (by simp)
  go_enter Try.func55, Try.ntmps55
  go_upto_region 1 with fail
  generalize ((w.alloc (.cells #[.int .i64 sh, .int .i64 ca, .slice A nr c, .slice C no d] 58)).alloc (.cells #[.int .i64 0, .int .i64 0, .slice none 0 0, .slice none 0 0] 58)) = w0 at b0 K0 R0 ⊢
  obtain ⟨gB, hgB⟩ : ∃ g, g = w.heap.size := ⟨_, rfl⟩
  obtain ⟨gZ, hgR⟩ : ∃ g, g = w.heap.size + 1 := ⟨_, rfl⟩
  have hBR : Hid (gZ ≠ gB) := by show _ ≠ _; omega
  have hLB : Hid (w.heap.size ≤ gB) := by show _ ≤ _; omega
  have hLR : Hid (w.heap.size ≤ gZ) := by show _ ≤ _; omega
  have J1 : Hid (Blk w0 gB 58 #[.int .i64 sh, .int .i64 ca, .slice A nr c, .slice C no d]) := by rw [hgB]; exact K0.out
  have J3 : Hid (Blk w0 gZ 58 #[.int .i64 0, .int .i64 0, .slice none 0 0, .slice none 0 0]) := by rw [hgR]; exact R0.out
  simp only [← hgR]
  simp only [← hgB]
  clear hgB hgR K0 R0
  obtain ⟨k0, k1, k2, k3⟩ := q4_of J1.out
  have HM : Hid (Bm w0 A C rl bk) := hm.out.below b0.out
  go_wp2_with fail
  refine (own_any sh ca A C nr no c d rl bk _ hsh hnr hno HM hf).mono ?_
  rintro e w2 ⟨Ar, Ao, cr, co, rl2, he, hbo, hb2⟩
  have hbk : bkA Ar Ao cr co bk = .agg #[.int .i64 sh, .int .i64 ca, .slice Ar nr cr, .slice Ao no co] := by unfold bkA; rw [hnr.out, hno.out, hsh.out.1, hsh.out.2]
  rw [hbk] at he
  subst he
  have HBO := Lib.hid (Bo_mono hbo b0.out.size)
  have HB2 := Lib.hid (below_step b0.out hb2)
  have L1 := Lib.hid (Blk.below' J1.out hb2)
  have L3 := Lib.hid (Blk.below' J3.out hb2)
  clear k0 k1 k2 k3 hb2 hbk hbo J1 J3 HM b0
  obtain ⟨k0, k1, k2, k3, f0, f1, f2, f3⟩ := z4_of L1.out
  have B3 : Hid (Bo w.heap.size ((((w2.setCell ⟨gB, 0, none⟩ (.int .i64 sh)).setCell ⟨gB, 1, none⟩ (.int .i64 ca)).setCell ⟨gB, 2, none⟩ (.slice Ar nr cr)).setCell ⟨gB, 3, none⟩ (.slice Ao no co)) Ar Ao cr co rl2 bk) := Bo_st4 HBO.out L1.out (by decide) (by decide) (by decide) _ _ _ _
  have P1 : Hid (Blk ((((w2.setCell ⟨gB, 0, none⟩ (.int .i64 sh)).setCell ⟨gB, 1, none⟩ (.int .i64 ca)).setCell ⟨gB, 2, none⟩ (.slice Ar nr cr)).setCell ⟨gB, 3, none⟩ (.slice Ao no co)) gB 58 #[.int .i64 sh, .int .i64 ca, .slice Ar nr cr, .slice Ao no co]) := st4_blk L1.out
  have P3 : Hid (Blk ((((w2.setCell ⟨gB, 0, none⟩ (.int .i64 sh)).setCell ⟨gB, 1, none⟩ (.int .i64 ca)).setCell ⟨gB, 2, none⟩ (.slice Ar nr cr)).setCell ⟨gB, 3, none⟩ (.slice Ao no co)) gZ 58 #[.int .i64 0, .int .i64 0, .slice none 0 0, .slice none 0 0]) := st4_far L3.out hBR.out
  have B3b : Hid (Below w.heap.size w ((((w2.setCell ⟨gB, 0, none⟩ (.int .i64 sh)).setCell ⟨gB, 1, none⟩ (.int .i64 ca)).setCell ⟨gB, 2, none⟩ (.slice Ar nr cr)).setCell ⟨gB, 3, none⟩ (.slice Ao no co))) := st4_below HB2.out hLB.out
  go_upto_region 2 with fail
  clear k0 k1 k2 k3 f0 f1 f2 f3 L1 L3 HBO HB2
  generalize ((((w2.setCell ⟨gB, 0, none⟩ (.int .i64 sh)).setCell ⟨gB, 1, none⟩ (.int .i64 ca)).setCell ⟨gB, 2, none⟩ (.slice Ar nr cr)).setCell ⟨gB, 3, none⟩ (.slice Ao no co)) = w3 at B3 P1 P3 B3b ⊢
  obtain ⟨k0, k1, k2, k3⟩ := q4_of P1.out
  have PLC := place_any sh ca Ar Ao nr no cr co bk.op k w3 hno (Rd.of_own (by have h := B3.out.o; exact h)) (by omega)
  by_cases hp : posE bk.op k < bk.op.length
  case neg =>
    rw [placeF_f hp] at PLC
    have HP := Lib.hid hp
    clear hp
    go_upto_region 3 with (go_at_call 81; refine PLC.mono ?_; rintro e w4 ⟨rfl, hb4⟩)
    have B4 : Hid (Bo w.heap.size w4 Ar Ao cr co rl2 bk) := ⟨own_below B3.out.r hb4, own_below B3.out.o hb4, B3.out.e, fun j hj => own_below (B3.out.own j hj) hb4, B3.out.ap⟩
    have P14 := Lib.hid (Blk.below' P1.out hb4)
    have P34 := Lib.hid (Blk.below' P3.out hb4)
    have B4b := Lib.hid (below_step B3b.out hb4)
    clear k0 k1 k2 k3 hb4 PLC
    have HF0 : Hid (cancelF bk k = (⟨sh, ca, bk.rows, bk.op⟩, 15)) := by
      show _ = _
      unfold cancelF
      rw [if_neg (show ¬ posE bk.op k < bk.op.length from by have := HP.out; omega), hsh.out.1, hsh.out.2]
    have F3 : Blk (st4 w4 gZ (.int .i64 sh) (.int .i64 ca) (.slice Ar nr cr) (.slice Ao no co)) gZ 58 #[.int .i64 sh, .int .i64 ca, .slice Ar nr cr, .slice Ao no co] := st4_blk P34.out
    have hfin : MadeB2 (cancelF bk k).1 (cancelF bk k).2 w (.returned (.tuple #[.agg #[.int .i64 sh, .int .i64 ca, .slice Ar nr cr, .slice Ao no co], .int .i64 15])) (st4 w4 gZ (.int .i64 sh) (.int .i64 ca) (.slice Ar nr cr) (.slice Ao no co)) := by
      obtain ⟨y1, y2, y3⟩ := Be_fin (Be_of B4.out hnr.out P34.out B4b.out) P34.out hLR.out (.int .i64 sh) (.int .i64 ca) (.slice Ar nr cr) (.slice Ao no co) sh ca
      rw [HF0.out]
      refine ⟨Ar, Ao, cr, co, rl2, ?_, y1, y2, y3⟩
      unfold bkA
      simp [hno.out, hnr.out]
    have HF := Lib.hid hfin
    clear hfin
    obtain ⟨k0, k1, k2, k3⟩ := q4_of P14.out
    obtain ⟨z0, z1, z2, z3, f0, f1, f2, f3⟩ := z4_of P34.out
    go_wp2_with fail
    obtain ⟨d0, d1, d2, d3⟩ := q4_of F3
    clear F3
    unfold st4 at d0 d1 d2 d3 HF
    exact bodyPost_ret (v := .tuple #[.agg #[.int .i64 sh, .int .i64 ca, .slice Ar nr cr, .slice Ao no co], .int .i64 15]) (by simp [results, Try.results55, go_sem, d0, d1, d2, d3]) rfl HF.out
  case pos =>
    rw [placeF_t hp] at PLC
    obtain ⟨go, hgo⟩ := own_at B3.out.o (by omega)
    subst hgo
    have HP := Lib.hid hp
    obtain ⟨i, hi⟩ : ∃ i, i = posE bk.op k := ⟨_, rfl⟩
    rw [← hi] at PLC
    have hil : i < bk.op.length := by rw [hi]; exact hp
    have hin : i < no := by rw [hno.out]; exact hil
    have HI := Lib.hid hi
    have HIL := Lib.hid hil
    have tne : ((i : Int) == -1) = false := by rw [beq_eq_false_iff_ne]; omega
    clear hp hi hil
    go_upto_region 3 with (go_at_call 81; refine PLC.mono ?_; rintro e w4 ⟨rfl, hb4⟩)
    have B4 : Hid (Bo w.heap.size w4 Ar (some ⟨go, 0, none⟩) cr co rl2 bk) := ⟨own_below B3.out.r hb4, own_below B3.out.o hb4, B3.out.e, fun j hj => own_below (B3.out.own j hj) hb4, B3.out.ap⟩
    have P14 := Lib.hid (Blk.below' P1.out hb4)
    have P34 := Lib.hid (Blk.below' P3.out hb4)
    have B4b := Lib.hid (below_step B3b.out hb4)
    clear k0 k1 k2 k3 hb4 PLC B3 P1 P3 B3b
    obtain ⟨_, _, hncap, hcapm, hroom, hcell⟩ := own_room B4.out.o
    rw [← hno.out] at hncap
    have c8 := hcell (i * 11 + 8) _ (ens_get bk.op i 8 HIL.out (by decide))
    have c9 := hcell (i * 11 + 9) _ (ens_get bk.op i 9 HIL.out (by decide))
    have g8 := (hroom (i * 11 + 8) (by omega)).2
    have g9 := (hroom (i * 11 + 9) (by omega)).2
    clear hroom hcell
    obtain ⟨E, hE⟩ : ∃ E, E = gE bk.op i := ⟨_, rfl⟩
    rw [← hE] at c8 c9
    have HE := Lib.hid hE
    clear hE
    obtain ⟨id, ⟨a, s, x, p, q', n, tt⟩, lf, st, ep⟩ := E
    replace c8 : w4.cell? ⟨go, i * 11 + 8, none⟩ = some (.int .i64 lf) := c8
    replace c9 : w4.cell? ⟨go, i * 11 + 9, none⟩ = some (.int .i64 st) := c9
    obtain ⟨k0, k1, k2, k3, f0, f1, f2, f3⟩ := z4_of P14.out
    by_cases hst : st = 2
    · have t1 : (st == 2) = true := by simp [hst]
      have HF0' : Hid (cancelF bk k = (bk, 16)) := by
        show _ = _
        unfold cancelF
        rw [if_pos HP.out, ← HI.out, ← HE.out, if_pos hst]
      clear hst
      go_upto_region 6 with fail
      clear k0 k1 k2 k3 f0 f1 f2 f3
      have HF0 : Hid (cancelF bk k = (⟨sh, ca, bk.rows, bk.op⟩, 16)) := by
        show _ = _
        rw [HF0'.out, hsh.out.1, hsh.out.2]
      have F3 : Blk (st4 w4 gZ (.int .i64 sh) (.int .i64 ca) (.slice Ar nr cr) (.slice (some ⟨go, 0, none⟩) no co)) gZ 58 #[.int .i64 sh, .int .i64 ca, .slice Ar nr cr, .slice (some ⟨go, 0, none⟩) no co] := st4_blk P34.out
      have hfin : MadeB2 (cancelF bk k).1 (cancelF bk k).2 w (.returned (.tuple #[.agg #[.int .i64 sh, .int .i64 ca, .slice Ar nr cr, .slice (some ⟨go, 0, none⟩) no co], .int .i64 16])) (st4 w4 gZ (.int .i64 sh) (.int .i64 ca) (.slice Ar nr cr) (.slice (some ⟨go, 0, none⟩) no co)) := by
        obtain ⟨y1, y2, y3⟩ := Be_fin (Be_of B4.out hnr.out P34.out B4b.out) P34.out hLR.out (.int .i64 sh) (.int .i64 ca) (.slice Ar nr cr) (.slice (some ⟨go, 0, none⟩) no co) sh ca
        rw [HF0.out]
        refine ⟨Ar, (some ⟨go, 0, none⟩), cr, co, rl2, ?_, y1, y2, y3⟩
        unfold bkA
        simp [hno.out, hnr.out]
      have HF := Lib.hid hfin
      clear hfin
      obtain ⟨k0, k1, k2, k3⟩ := q4_of P14.out
      obtain ⟨z0, z1, z2, z3, f0, f1, f2, f3⟩ := z4_of P34.out
      go_wp2_with fail
      obtain ⟨d0, d1, d2, d3⟩ := q4_of F3
      clear F3
      unfold st4 at d0 d1 d2 d3 HF
      exact bodyPost_ret (v := .tuple #[.agg #[.int .i64 sh, .int .i64 ca, .slice Ar nr cr, .slice (some ⟨go, 0, none⟩) no co], .int .i64 16]) (by simp [results, Try.results55, go_sem, d0, d1, d2, d3]) rfl HF.out
    · have t1 : (st == 2) = false := by simp [hst]
      have HF0 : Hid (cancelF bk k = (⟨sh, ca, bk.rows, bk.op.set i (setS (gE bk.op i) 2)⟩, 0)) := by
        show _ = _
        unfold cancelF
        rw [if_pos HP.out, ← HI.out, ← HE.out, if_neg hst, hsh.out.1, hsh.out.2]
      clear hst
      have HLN : Hid (no = (bk.op.set i (setS (gE bk.op i) 2)).length) := by show _ = _; rw [List.length_set]; exact hno.out
      have hneB : gB ≠ go := fun e => blk_own_ne P14.out B4.out.o (by decide) (by rw [e]; rfl)
      have hneR : gZ ≠ go := fun e => blk_own_ne P34.out B4.out.o (by decide) (by rw [e]; rfl)
      have B5 : Hid (Bo w.heap.size (w4.setCell ⟨go, i * 11 + 9, none⟩ (.int .i64 2)) Ar (some ⟨go, 0, none⟩) cr co rl2 (⟨bk.sh, bk.ca, bk.rows, bk.op.set i (setS (gE bk.op i) 2)⟩ : Bk)) := Bo_setE B4.out (i * 11 + 9) _ _ (by simp) (ens_setS _ _ HIL.out _)
      have P15 : Hid (Blk (w4.setCell ⟨go, i * 11 + 9, none⟩ (.int .i64 2)) gB 58 #[.int .i64 sh, .int .i64 ca, .slice Ar nr cr, .slice (some ⟨go, 0, none⟩) no co]) := far_st P14.out hneB _
      have P35 : Hid (Blk (w4.setCell ⟨go, i * 11 + 9, none⟩ (.int .i64 2)) gZ 58 #[.int .i64 0, .int .i64 0, .slice none 0 0, .slice none 0 0]) := far_st P34.out hneR _
      have B5b : Hid (Below w.heap.size w (w4.setCell ⟨go, i * 11 + 9, none⟩ (.int .i64 2))) := B4b.out.setCell (p := ⟨go, i * 11 + 9, none⟩) (own_fresh B4.out.o ⟨go, 0, none⟩ rfl) _
      go_upto_region 8 with fail
      clear k0 k1 k2 k3 f0 f1 f2 f3 c8 c9 g8 g9 B4 P14 P34 B4b hneB hneR
      generalize (w4.setCell ⟨go, i * 11 + 9, none⟩ (.int .i64 2)) = w5 at B5 P15 P35 B5b ⊢
      have F3 : Blk (st4 w5 gZ (.int .i64 sh) (.int .i64 ca) (.slice Ar nr cr) (.slice (some ⟨go, 0, none⟩) no co)) gZ 58 #[.int .i64 sh, .int .i64 ca, .slice Ar nr cr, .slice (some ⟨go, 0, none⟩) no co] := st4_blk P35.out
      have hfin : MadeB2 (cancelF bk k).1 (cancelF bk k).2 w (.returned (.tuple #[.agg #[.int .i64 sh, .int .i64 ca, .slice Ar nr cr, .slice (some ⟨go, 0, none⟩) no co], .int .i64 0])) (st4 w5 gZ (.int .i64 sh) (.int .i64 ca) (.slice Ar nr cr) (.slice (some ⟨go, 0, none⟩) no co)) := by
        obtain ⟨y1, y2, y3⟩ := Be_fin (Be_of B5.out hnr.out P35.out B5b.out) P35.out hLR.out (.int .i64 sh) (.int .i64 ca) (.slice Ar nr cr) (.slice (some ⟨go, 0, none⟩) no co) sh ca
        rw [HF0.out]
        refine ⟨Ar, (some ⟨go, 0, none⟩), cr, co, rl2, ?_, y1, y2, y3⟩
        unfold bkA
        simp [hno.out, hnr.out]
      have HF := Lib.hid hfin
      clear hfin
      obtain ⟨k0, k1, k2, k3⟩ := q4_of P15.out
      obtain ⟨z0, z1, z2, z3, f0, f1, f2, f3⟩ := z4_of P35.out
      go_wp2_with fail
      obtain ⟨d0, d1, d2, d3⟩ := q4_of F3
      clear F3
      unfold st4 at d0 d1 d2 d3 HF
      exact bodyPost_ret (v := .tuple #[.agg #[.int .i64 sh, .int .i64 ca, .slice Ar nr cr, .slice (some ⟨go, 0, none⟩) no co], .int .i64 0]) (by simp [results, Try.results55, go_sem, d0, d1, d2, d3]) rfl HF.out
set_option maxHeartbeats 8000000 in
theorem fill_any (sh ca : Int) (A C : Option Addr) (nr no c d : Nat) (rl : List Rc) (bk : Bk) (k q : Int) (w : World) (hsh : Hid (sh = bk.sh ∧ ca = bk.ca)) (hnr : Hid (nr = bk.rows.length)) (hno : Hid (no = bk.op.length)) (hm : Hid (Bm w A C rl bk)) (hf : Hid (FewB bk)) (hwf : Hid (∀ i, i < bk.op.length → inI (gE bk.op i).lf)) (hq9 : q ≤ 9223372036854775807) :
    Calls Try.prog 57 #[.agg #[.int .i64 sh, .int .i64 ca, .slice A nr c, .slice C no d], .int .i64 k, .int .i64 q] w (MadeB2 (fillF bk k q).1 (fillF bk k q).2 w) := by
  have hl1 : nr ≤ 1000 := by rw [hnr.out]; exact hf.out.rl
  have hl2 : no ≤ 1000 := by rw [hno.out]; exact hf.out.ol
  have b0 : Hid (Below w.heap.size w ((w.alloc (.cells #[.int .i64 sh, .int .i64 ca, .slice A nr c, .slice C no d] 58)).alloc (.cells #[.int .i64 0, .int .i64 0, .slice none 0 0, .slice none 0 0] 58))) := ((Below.refl _ _).alloc (Nat.le_refl _) _).alloc (by simp) _
  have K0 : Hid (Blk ((w.alloc (.cells #[.int .i64 sh, .int .i64 ca, .slice A nr c, .slice C no d] 58)).alloc (.cells #[.int .i64 0, .int .i64 0, .slice none 0 0, .slice none 0 0] 58)) w.heap.size 58 #[.int .i64 sh, .int .i64 ca, .slice A nr c, .slice C no d]) := (Blk.fresh w _ _).alloc _
  have R0 : Hid (Blk ((w.alloc (.cells #[.int .i64 sh, .int .i64 ca, .slice A nr c, .slice C no d] 58)).alloc (.cells #[.int .i64 0, .int .i64 0, .slice none 0 0, .slice none 0 0] 58)) (w.heap.size + 1) 58 #[.int .i64 0, .int .i64 0, .slice none 0 0, .slice none 0 0]) := blk_hd (by simp)
  go_enter Try.func57, Try.ntmps57
  go_upto_region 1 with fail
  generalize ((w.alloc (.cells #[.int .i64 sh, .int .i64 ca, .slice A nr c, .slice C no d] 58)).alloc (.cells #[.int .i64 0, .int .i64 0, .slice none 0 0, .slice none 0 0] 58)) = w0 at b0 K0 R0 ⊢
  obtain ⟨gB, hgB⟩ : ∃ g, g = w.heap.size := ⟨_, rfl⟩
  obtain ⟨gZ, hgR⟩ : ∃ g, g = w.heap.size + 1 := ⟨_, rfl⟩
  have hBR : Hid (gZ ≠ gB) := by show _ ≠ _; omega
  have hLB : Hid (w.heap.size ≤ gB) := by show _ ≤ _; omega
  have hLR : Hid (w.heap.size ≤ gZ) := by show _ ≤ _; omega
  have J1 : Hid (Blk w0 gB 58 #[.int .i64 sh, .int .i64 ca, .slice A nr c, .slice C no d]) := by rw [hgB]; exact K0.out
  have J3 : Hid (Blk w0 gZ 58 #[.int .i64 0, .int .i64 0, .slice none 0 0, .slice none 0 0]) := by rw [hgR]; exact R0.out
  simp only [← hgR]
  simp only [← hgB]
  clear hgB hgR K0 R0
  obtain ⟨k0, k1, k2, k3⟩ := q4_of J1.out
  have HM : Hid (Bm w0 A C rl bk) := hm.out.below b0.out
  go_wp2_with fail
  refine (own_any sh ca A C nr no c d rl bk _ hsh hnr hno HM hf).mono ?_
  rintro e w2 ⟨Ar, Ao, cr, co, rl2, he, hbo, hb2⟩
  have hbk : bkA Ar Ao cr co bk = .agg #[.int .i64 sh, .int .i64 ca, .slice Ar nr cr, .slice Ao no co] := by unfold bkA; rw [hnr.out, hno.out, hsh.out.1, hsh.out.2]
  rw [hbk] at he
  subst he
  have HBO := Lib.hid (Bo_mono hbo b0.out.size)
  have HB2 := Lib.hid (below_step b0.out hb2)
  have L1 := Lib.hid (Blk.below' J1.out hb2)
  have L3 := Lib.hid (Blk.below' J3.out hb2)
  clear k0 k1 k2 k3 hb2 hbk hbo J1 J3 HM b0
  obtain ⟨k0, k1, k2, k3, f0, f1, f2, f3⟩ := z4_of L1.out
  have B3 : Hid (Bo w.heap.size ((((w2.setCell ⟨gB, 0, none⟩ (.int .i64 sh)).setCell ⟨gB, 1, none⟩ (.int .i64 ca)).setCell ⟨gB, 2, none⟩ (.slice Ar nr cr)).setCell ⟨gB, 3, none⟩ (.slice Ao no co)) Ar Ao cr co rl2 bk) := Bo_st4 HBO.out L1.out (by decide) (by decide) (by decide) _ _ _ _
  have P1 : Hid (Blk ((((w2.setCell ⟨gB, 0, none⟩ (.int .i64 sh)).setCell ⟨gB, 1, none⟩ (.int .i64 ca)).setCell ⟨gB, 2, none⟩ (.slice Ar nr cr)).setCell ⟨gB, 3, none⟩ (.slice Ao no co)) gB 58 #[.int .i64 sh, .int .i64 ca, .slice Ar nr cr, .slice Ao no co]) := st4_blk L1.out
  have P3 : Hid (Blk ((((w2.setCell ⟨gB, 0, none⟩ (.int .i64 sh)).setCell ⟨gB, 1, none⟩ (.int .i64 ca)).setCell ⟨gB, 2, none⟩ (.slice Ar nr cr)).setCell ⟨gB, 3, none⟩ (.slice Ao no co)) gZ 58 #[.int .i64 0, .int .i64 0, .slice none 0 0, .slice none 0 0]) := st4_far L3.out hBR.out
  have B3b : Hid (Below w.heap.size w ((((w2.setCell ⟨gB, 0, none⟩ (.int .i64 sh)).setCell ⟨gB, 1, none⟩ (.int .i64 ca)).setCell ⟨gB, 2, none⟩ (.slice Ar nr cr)).setCell ⟨gB, 3, none⟩ (.slice Ao no co))) := st4_below HB2.out hLB.out
  go_upto_region 2 with fail
  clear k0 k1 k2 k3 f0 f1 f2 f3 L1 L3 HBO HB2
  generalize ((((w2.setCell ⟨gB, 0, none⟩ (.int .i64 sh)).setCell ⟨gB, 1, none⟩ (.int .i64 ca)).setCell ⟨gB, 2, none⟩ (.slice Ar nr cr)).setCell ⟨gB, 3, none⟩ (.slice Ao no co)) = w3 at B3 P1 P3 B3b ⊢
  by_cases hq : q < 1
  · have t1 : decide (q < 1) = true := by simp [hq]
    have HF0' : Hid (fillF bk k q = (bk, 1)) := by
      show _ = _
      unfold fillF
      rw [if_pos hq]
    clear hq
    go_upto_region 3 with fail
    have HF0 : Hid (fillF bk k q = (⟨sh, ca, bk.rows, bk.op⟩, 1)) := by
      show _ = _
      rw [HF0'.out, hsh.out.1, hsh.out.2]
    have F3 : Blk (st4 w3 gZ (.int .i64 sh) (.int .i64 ca) (.slice Ar nr cr) (.slice Ao no co)) gZ 58 #[.int .i64 sh, .int .i64 ca, .slice Ar nr cr, .slice Ao no co] := st4_blk P3.out
    have hfin : MadeB2 (fillF bk k q).1 (fillF bk k q).2 w (.returned (.tuple #[.agg #[.int .i64 sh, .int .i64 ca, .slice Ar nr cr, .slice Ao no co], .int .i64 1])) (st4 w3 gZ (.int .i64 sh) (.int .i64 ca) (.slice Ar nr cr) (.slice Ao no co)) := by
      obtain ⟨y1, y2, y3⟩ := Be_fin (Be_of B3.out hnr.out P3.out B3b.out) P3.out hLR.out (.int .i64 sh) (.int .i64 ca) (.slice Ar nr cr) (.slice Ao no co) sh ca
      rw [HF0.out]
      refine ⟨Ar, Ao, cr, co, rl2, ?_, y1, y2, y3⟩
      unfold bkA
      simp [hno.out, hnr.out]
    have HF := Lib.hid hfin
    clear hfin
    obtain ⟨k0, k1, k2, k3⟩ := q4_of P1.out
    obtain ⟨z0, z1, z2, z3, f0, f1, f2, f3⟩ := z4_of P3.out
    go_wp2_with fail
    obtain ⟨d0, d1, d2, d3⟩ := q4_of F3
    clear F3
    unfold st4 at d0 d1 d2 d3 HF
    exact bodyPost_ret (v := .tuple #[.agg #[.int .i64 sh, .int .i64 ca, .slice Ar nr cr, .slice Ao no co], .int .i64 1]) (by simp [results, Try.results57, go_sem, d0, d1, d2, d3]) rfl HF.out
  · have t1 : decide (q < 1) = false := by simp [hq]
    have HQ := Lib.hid hq
    have hq1 : 1 ≤ q := by omega
    clear hq
    go_upto_region 4 with fail
    obtain ⟨k0, k1, k2, k3⟩ := q4_of P1.out
    have PLC := place_any sh ca Ar Ao nr no cr co bk.op k w3 hno (Rd.of_own (by have h := B3.out.o; exact h)) (by omega)
    by_cases hp : posE bk.op k < bk.op.length
    case neg =>
      rw [placeF_f hp] at PLC
      have HP := Lib.hid hp
      clear hp
      go_upto_region 5 with (go_at_call 81; refine PLC.mono ?_; rintro e w4 ⟨rfl, hb4⟩)
      have B4 : Hid (Bo w.heap.size w4 Ar Ao cr co rl2 bk) := ⟨own_below B3.out.r hb4, own_below B3.out.o hb4, B3.out.e, fun j hj => own_below (B3.out.own j hj) hb4, B3.out.ap⟩
      have P14 := Lib.hid (Blk.below' P1.out hb4)
      have P34 := Lib.hid (Blk.below' P3.out hb4)
      have B4b := Lib.hid (below_step B3b.out hb4)
      clear k0 k1 k2 k3 hb4 PLC
      have HF0 : Hid (fillF bk k q = (⟨sh, ca, bk.rows, bk.op⟩, 15)) := by
        show _ = _
        unfold fillF
        rw [if_neg (show ¬ q < 1 from by have := HQ.out; omega), if_neg (show ¬ posE bk.op k < bk.op.length from by have := HP.out; omega), hsh.out.1, hsh.out.2]
      have F3 : Blk (st4 w4 gZ (.int .i64 sh) (.int .i64 ca) (.slice Ar nr cr) (.slice Ao no co)) gZ 58 #[.int .i64 sh, .int .i64 ca, .slice Ar nr cr, .slice Ao no co] := st4_blk P34.out
      have hfin : MadeB2 (fillF bk k q).1 (fillF bk k q).2 w (.returned (.tuple #[.agg #[.int .i64 sh, .int .i64 ca, .slice Ar nr cr, .slice Ao no co], .int .i64 15])) (st4 w4 gZ (.int .i64 sh) (.int .i64 ca) (.slice Ar nr cr) (.slice Ao no co)) := by
        obtain ⟨y1, y2, y3⟩ := Be_fin (Be_of B4.out hnr.out P34.out B4b.out) P34.out hLR.out (.int .i64 sh) (.int .i64 ca) (.slice Ar nr cr) (.slice Ao no co) sh ca
        rw [HF0.out]
        refine ⟨Ar, Ao, cr, co, rl2, ?_, y1, y2, y3⟩
        unfold bkA
        simp [hno.out, hnr.out]
      have HF := Lib.hid hfin
      clear hfin
      obtain ⟨k0, k1, k2, k3⟩ := q4_of P14.out
      obtain ⟨z0, z1, z2, z3, f0, f1, f2, f3⟩ := z4_of P34.out
      go_wp2_with fail
      obtain ⟨d0, d1, d2, d3⟩ := q4_of F3
      clear F3
      unfold st4 at d0 d1 d2 d3 HF
      exact bodyPost_ret (v := .tuple #[.agg #[.int .i64 sh, .int .i64 ca, .slice Ar nr cr, .slice Ao no co], .int .i64 15]) (by simp [results, Try.results57, go_sem, d0, d1, d2, d3]) rfl HF.out
    case pos =>
      rw [placeF_t hp] at PLC
      obtain ⟨go, hgo⟩ := own_at B3.out.o (by omega)
      subst hgo
      have HP := Lib.hid hp
      obtain ⟨i, hi⟩ : ∃ i, i = posE bk.op k := ⟨_, rfl⟩
      rw [← hi] at PLC
      have hil : i < bk.op.length := by rw [hi]; exact hp
      have hin : i < no := by rw [hno.out]; exact hil
      have HI := Lib.hid hi
      have HIL := Lib.hid hil
      have tne : ((i : Int) == -1) = false := by rw [beq_eq_false_iff_ne]; omega
      clear hp hi hil
      go_upto_region 5 with (go_at_call 81; refine PLC.mono ?_; rintro e w4 ⟨rfl, hb4⟩)
      have B4 : Hid (Bo w.heap.size w4 Ar (some ⟨go, 0, none⟩) cr co rl2 bk) := ⟨own_below B3.out.r hb4, own_below B3.out.o hb4, B3.out.e, fun j hj => own_below (B3.out.own j hj) hb4, B3.out.ap⟩
      have P14 := Lib.hid (Blk.below' P1.out hb4)
      have P34 := Lib.hid (Blk.below' P3.out hb4)
      have B4b := Lib.hid (below_step B3b.out hb4)
      clear k0 k1 k2 k3 hb4 PLC B3 P1 P3 B3b
      obtain ⟨_, _, hncap, hcapm, hroom, hcell⟩ := own_room B4.out.o
      rw [← hno.out] at hncap
      have c8 := hcell (i * 11 + 8) _ (ens_get bk.op i 8 HIL.out (by decide))
      have c9 := hcell (i * 11 + 9) _ (ens_get bk.op i 9 HIL.out (by decide))
      have g8 := (hroom (i * 11 + 8) (by omega)).2
      have g9 := (hroom (i * 11 + 9) (by omega)).2
      clear hroom hcell
      obtain ⟨E, hE⟩ : ∃ E, E = gE bk.op i := ⟨_, rfl⟩
      rw [← hE] at c8 c9
      have HE := Lib.hid hE
      clear hE
      obtain ⟨id, ⟨a, s, x, p, q', n, tt⟩, lf, st, ep⟩ := E
      replace c8 : w4.cell? ⟨go, i * 11 + 8, none⟩ = some (.int .i64 lf) := c8
      replace c9 : w4.cell? ⟨go, i * 11 + 9, none⟩ = some (.int .i64 st) := c9
      obtain ⟨k0, k1, k2, k3, f0, f1, f2, f3⟩ := z4_of P14.out
      have HWL := Lib.hid (hwf.out i HIL.out)
      rw [← HE.out] at HWL
      by_cases hlt : lf < q
      · have t1 : decide (lf < q) = true := by simp [hlt]
        have HF0' : Hid (fillF bk k q = (bk, 17)) := by
          show _ = _
          unfold fillF
          rw [if_neg (show ¬ q < 1 from by have := HQ.out; omega), if_pos HP.out, ← HI.out, ← HE.out, if_pos hlt]
        clear hlt
        go_upto_region 8 with fail
        clear k0 k1 k2 k3 f0 f1 f2 f3
        have HF0 : Hid (fillF bk k q = (⟨sh, ca, bk.rows, bk.op⟩, 17)) := by
          show _ = _
          rw [HF0'.out, hsh.out.1, hsh.out.2]
        have F3 : Blk (st4 w4 gZ (.int .i64 sh) (.int .i64 ca) (.slice Ar nr cr) (.slice (some ⟨go, 0, none⟩) no co)) gZ 58 #[.int .i64 sh, .int .i64 ca, .slice Ar nr cr, .slice (some ⟨go, 0, none⟩) no co] := st4_blk P34.out
        have hfin : MadeB2 (fillF bk k q).1 (fillF bk k q).2 w (.returned (.tuple #[.agg #[.int .i64 sh, .int .i64 ca, .slice Ar nr cr, .slice (some ⟨go, 0, none⟩) no co], .int .i64 17])) (st4 w4 gZ (.int .i64 sh) (.int .i64 ca) (.slice Ar nr cr) (.slice (some ⟨go, 0, none⟩) no co)) := by
          obtain ⟨y1, y2, y3⟩ := Be_fin (Be_of B4.out hnr.out P34.out B4b.out) P34.out hLR.out (.int .i64 sh) (.int .i64 ca) (.slice Ar nr cr) (.slice (some ⟨go, 0, none⟩) no co) sh ca
          rw [HF0.out]
          refine ⟨Ar, (some ⟨go, 0, none⟩), cr, co, rl2, ?_, y1, y2, y3⟩
          unfold bkA
          simp [hno.out, hnr.out]
        have HF := Lib.hid hfin
        clear hfin
        obtain ⟨k0, k1, k2, k3⟩ := q4_of P14.out
        obtain ⟨z0, z1, z2, z3, f0, f1, f2, f3⟩ := z4_of P34.out
        go_wp2_with fail
        obtain ⟨d0, d1, d2, d3⟩ := q4_of F3
        clear F3
        unfold st4 at d0 d1 d2 d3 HF
        exact bodyPost_ret (v := .tuple #[.agg #[.int .i64 sh, .int .i64 ca, .slice Ar nr cr, .slice (some ⟨go, 0, none⟩) no co], .int .i64 17]) (by simp [results, Try.results57, go_sem, d0, d1, d2, d3]) rfl HF.out
      · have t1 : decide (lf < q) = false := by simp [hlt]
        have e1 : wrap64 (lf - q) = lf - q := by
          have h1 := HWL.out
          have h2 := HQ.out
          simp only [inI] at h1
          unfold wrap64; omega
        have HLT := Lib.hid hlt
        clear hlt
        have hneB : gB ≠ go := fun e => blk_own_ne P14.out B4.out.o (by decide) (by rw [e]; rfl)
        have hneR : gZ ≠ go := fun e => blk_own_ne P34.out B4.out.o (by decide) (by rw [e]; rfl)
        have B5 : Hid (Bo w.heap.size (w4.setCell ⟨go, i * 11 + 8, none⟩ (.int .i64 (lf - q))) Ar (some ⟨go, 0, none⟩) cr co rl2 (⟨bk.sh, bk.ca, bk.rows, bk.op.set i (setL (gE bk.op i) (lf - q))⟩ : Bk)) := Bo_setE B4.out (i * 11 + 8) _ _ (by simp) (ens_setL _ _ HIL.out _)
        have P15 : Hid (Blk (w4.setCell ⟨go, i * 11 + 8, none⟩ (.int .i64 (lf - q))) gB 58 #[.int .i64 sh, .int .i64 ca, .slice Ar nr cr, .slice (some ⟨go, 0, none⟩) no co]) := far_st P14.out hneB _
        have P35 : Hid (Blk (w4.setCell ⟨go, i * 11 + 8, none⟩ (.int .i64 (lf - q))) gZ 58 #[.int .i64 0, .int .i64 0, .slice none 0 0, .slice none 0 0]) := far_st P34.out hneR _
        have B5b : Hid (Below w.heap.size w (w4.setCell ⟨go, i * 11 + 8, none⟩ (.int .i64 (lf - q)))) := B4b.out.setCell (p := ⟨go, i * 11 + 8, none⟩) (own_fresh B4.out.o ⟨go, 0, none⟩ rfl) _
        go_upto_region 10 with fail
        clear k0 k1 k2 k3 f0 f1 f2 f3 c8 c9 g8 g9 B4 P14 P34 B4b hneB hneR
        generalize (w4.setCell ⟨go, i * 11 + 8, none⟩ (.int .i64 (lf - q))) = w5 at B5 P15 P35 B5b ⊢
        obtain ⟨_, _, _, _, _, hcell⟩ := own_room B5.out.o
        have c8 := hcell (i * 11 + 8) _ (ens_get (bk.op.set i (setL (gE bk.op i) (lf - q))) i 8 (by rw [List.length_set]; exact HIL.out) (by decide))
        rw [gE_set _ _ HIL.out] at c8
        replace c8 : w5.cell? ⟨go, i * 11 + 8, none⟩ = some (.int .i64 (lf - q)) := c8
        clear hcell
        obtain ⟨k0, k1, k2, k3, f0, f1, f2, f3⟩ := z4_of P15.out
        have hlx : (⟨bk.sh, bk.ca, bk.rows, bk.op.set i (setL (gE bk.op i) (lf - q))⟩ : Bk).op.length = bk.op.length := by simp
        have HNX : Hid (no = (⟨bk.sh, bk.ca, bk.rows, bk.op.set i (setL (gE bk.op i) (lf - q))⟩ : Bk).op.length) := by show _ = _; rw [hlx]; exact hno.out
        clear hlx
        by_cases h0 : lf - q = 0
        · have t2 : (lf - q == 0) = true := by simp [h0]
          have HF0' : Hid (fillF bk k q = (⟨bk.sh, bk.ca, bk.rows, delE bk.op i⟩, 0)) := by
            show _ = _
            unfold fillF
            rw [if_neg (show ¬ q < 1 from by have := HQ.out; omega), if_pos HP.out, ← HI.out, ← HE.out, if_neg (show ¬ lf < q from by have := HLT.out; omega), if_pos h0]
          clear h0
          obtain ⟨no1, hno1⟩ : ∃ m, m = i + (no - (i + 1)) := ⟨_, rfl⟩
          have hcap : (co : Int) ≤ 9223372036854775807 := by unfold maxLen at hcapm; omega
          clear hcapm
          have D := deleteE go no co i (i + 1) (ens (⟨bk.sh, bk.ca, bk.rows, bk.op.set i (setL (gE bk.op i) (lf - q))⟩ : Bk).op) w.heap.size w5 (by have h := B5.out.o; rw [← HNX.out] at h; exact h) (ens_one _) (by omega) (by omega) hcap
          rw [← hno1, show ((i + 1 : Nat) : Int) = (i : Int) + 1 from rfl] at D
          have ei : wrap64 ((i : Int) + 1) = (i : Int) + 1 := by unfold wrap64; omega
          have HNO1 := Lib.hid hno1
          clear hno1
          go_upto_region 12 with (go_at_call 82; refine D.mono ?_; rintro e w5 ⟨rfl, hrd, hg5⟩; have k9 := Blk_grown P15.out hg5 (some_ne (fun e => blk_own_ne P15.out B5.out.o (by decide) (by rw [← e]; rfl))); obtain ⟨p0, p1, p2, p3, q0, q1, q2, q3⟩ := z4_of k9)
          have PB5 : Hid (Blk (w5.setCell ⟨gB, 3, none⟩ (.slice (some ⟨go, 0, none⟩) no1 co)) gB 58 #[.int .i64 sh, .int .i64 ca, .slice Ar nr cr, .slice (some ⟨go, 0, none⟩) no1 co]) := blk_st k9 3 _
          have PR5 : Hid (Blk (w5.setCell ⟨gB, 3, none⟩ (.slice (some ⟨go, 0, none⟩) no1 co)) gZ 58 #[.int .i64 0, .int .i64 0, .slice none 0 0, .slice none 0 0]) := far_st (Blk_grown P35.out hg5 (some_ne (fun e => blk_own_ne P35.out B5.out.o (by decide) (by rw [← e]; rfl)))) hBR.out _
          have BE5 : Hid (Be w (w5.setCell ⟨gB, 3, none⟩ (.slice (some ⟨go, 0, none⟩) no1 co)) gZ nr cr Ar (some ⟨go, 0, none⟩) rl2 bk.rows (delE (⟨bk.sh, bk.ca, bk.rows, bk.op.set i (setL (gE bk.op i) (lf - q))⟩ : Bk).op i)) := Be_del B5.out hnr.out P35.out P15.out B5b.out hrd hg5 _ hLB.out
          clear p0 p1 p2 p3 q0 q1 q2 q3 k9 hrd hg5 D k0 k1 k2 k3 f0 f1 f2 f3
          generalize w5.setCell ⟨gB, 3, none⟩ (.slice (some ⟨go, 0, none⟩) no1 co) = w6 at PB5 PR5 BE5 ⊢
          have HF0 : Hid (fillF bk k q = (⟨sh, ca, bk.rows, delE bk.op i⟩, 0)) := by
            show _ = _
            rw [HF0'.out, hsh.out.1, hsh.out.2]
          have HLN : Hid (no1 = (delE bk.op i).length) := by show _ = _; rw [delE_len _ _ HIL.out, ← hno.out]; exact HNO1.out
          have F3 : Blk (st4 w6 gZ (.int .i64 sh) (.int .i64 ca) (.slice Ar nr cr) (.slice (some ⟨go, 0, none⟩) no1 co)) gZ 58 #[.int .i64 sh, .int .i64 ca, .slice Ar nr cr, .slice (some ⟨go, 0, none⟩) no1 co] := st4_blk PR5.out
          have hfin : MadeB2 (fillF bk k q).1 (fillF bk k q).2 w (.returned (.tuple #[.agg #[.int .i64 sh, .int .i64 ca, .slice Ar nr cr, .slice (some ⟨go, 0, none⟩) no1 co], .int .i64 0])) (st4 w6 gZ (.int .i64 sh) (.int .i64 ca) (.slice Ar nr cr) (.slice (some ⟨go, 0, none⟩) no1 co)) := by
            obtain ⟨y1, y2, y3⟩ := Be_fin (show Be _ _ _ _ _ _ _ _ _ (delE bk.op i) from by have h := BE5.out; rw [show delE (⟨bk.sh, bk.ca, bk.rows, bk.op.set i (setL (gE bk.op i) (lf - q))⟩ : Bk).op i = delE bk.op i from delE_set _ _ _] at h; exact h) PR5.out hLR.out (.int .i64 sh) (.int .i64 ca) (.slice Ar nr cr) (.slice (some ⟨go, 0, none⟩) no1 co) sh ca
            rw [HF0.out]
            refine ⟨Ar, (some ⟨go, 0, none⟩), cr, co, rl2, ?_, y1, y2, y3⟩
            unfold bkA
            simp [HLN.out, hnr.out]
          have HF := Lib.hid hfin
          clear hfin
          obtain ⟨k0, k1, k2, k3⟩ := q4_of PB5.out
          obtain ⟨z0, z1, z2, z3, f0, f1, f2, f3⟩ := z4_of PR5.out
          go_wp2_with fail
          obtain ⟨d0, d1, d2, d3⟩ := q4_of F3
          clear F3
          unfold st4 at d0 d1 d2 d3 HF
          exact bodyPost_ret (v := .tuple #[.agg #[.int .i64 sh, .int .i64 ca, .slice Ar nr cr, .slice (some ⟨go, 0, none⟩) no1 co], .int .i64 0]) (by simp [results, Try.results57, go_sem, d0, d1, d2, d3]) rfl HF.out
        · have t2 : (lf - q == 0) = false := by simp [h0]
          have HF0 : Hid (fillF bk k q = (⟨sh, ca, bk.rows, bk.op.set i (setL (gE bk.op i) (lf - q))⟩, 0)) := by
            show _ = _
            unfold fillF
            rw [if_neg (show ¬ q < 1 from by have := HQ.out; omega), if_pos HP.out, ← HI.out, ← HE.out, if_neg (show ¬ lf < q from by have := HLT.out; omega), if_neg h0, hsh.out.1, hsh.out.2]
          clear h0
          go_upto_region 12 with fail
          clear k0 k1 k2 k3 f0 f1 f2 f3 c8
          have F3 : Blk (st4 w5 gZ (.int .i64 sh) (.int .i64 ca) (.slice Ar nr cr) (.slice (some ⟨go, 0, none⟩) no co)) gZ 58 #[.int .i64 sh, .int .i64 ca, .slice Ar nr cr, .slice (some ⟨go, 0, none⟩) no co] := st4_blk P35.out
          have hfin : MadeB2 (fillF bk k q).1 (fillF bk k q).2 w (.returned (.tuple #[.agg #[.int .i64 sh, .int .i64 ca, .slice Ar nr cr, .slice (some ⟨go, 0, none⟩) no co], .int .i64 0])) (st4 w5 gZ (.int .i64 sh) (.int .i64 ca) (.slice Ar nr cr) (.slice (some ⟨go, 0, none⟩) no co)) := by
            obtain ⟨y1, y2, y3⟩ := Be_fin (Be_of B5.out hnr.out P35.out B5b.out) P35.out hLR.out (.int .i64 sh) (.int .i64 ca) (.slice Ar nr cr) (.slice (some ⟨go, 0, none⟩) no co) sh ca
            rw [HF0.out]
            refine ⟨Ar, (some ⟨go, 0, none⟩), cr, co, rl2, ?_, y1, y2, y3⟩
            unfold bkA
            simp [hno.out, hnr.out]
          have HF := Lib.hid hfin
          clear hfin
          obtain ⟨k0, k1, k2, k3⟩ := q4_of P15.out
          obtain ⟨z0, z1, z2, z3, f0, f1, f2, f3⟩ := z4_of P35.out
          go_wp2_with fail
          obtain ⟨d0, d1, d2, d3⟩ := q4_of F3
          clear F3
          unfold st4 at d0 d1 d2 d3 HF
          exact bodyPost_ret (v := .tuple #[.agg #[.int .i64 sh, .int .i64 ca, .slice Ar nr cr, .slice (some ⟨go, 0, none⟩) no co], .int .i64 0]) (by simp [results, Try.results57, go_sem, d0, d1, d2, d3]) rfl HF.out
end Go.Proofs.Ytkmkaidhpbjbnaa.Bkc

/- Books stay short and their numbers of 64 bits, whatever is done: plain facts. No program, no condition. -/
namespace Go.Proofs.Ytkmkaidhpbjbnaa.Bkq
set_option maxRecDepth 100000
open Go.ChangeShapes Go.WideShapes Go.RowKit Mem Tre Ref3 Law3 Bkp Bks
set_option linter.unusedVariables false
def EOk (e : En) : Prop := inI e.lf ∧ inI e.o.p
def ROk (m : Nat) (r : Ro) : Prop := r.ns.length ≤ m ∧ 0 ≤ r.cnt ∧ r.cnt ≤ m ∧ inI r.sec
structure Fw (m : Nat) (b : Bk) : Prop where
  rl : b.rows.length ≤ 1000
  ol : b.op.length ≤ m
  sh : 0 ≤ b.sh ∧ b.sh ≤ 1000
  ca : 0 ≤ b.ca ∧ b.ca ≤ m
  ro : ∀ r ∈ b.rows, ROk m r
  en : ∀ e ∈ b.op, EOk e
theorem gE_mem {l : List En} {i : Nat} (h : i < l.length) : gE l i ∈ l := by
  simp only [gE, List.getD, List.getElem?_eq_getElem h, Option.getD_some]
  exact List.getElem_mem h
theorem gR_mem {l : List Ro} {i : Nat} (h : i < l.length) : gR l i ∈ l := by
  simp only [gR, List.getD, List.getElem?_eq_getElem h, Option.getD_some]
  exact List.getElem_mem h
theorem gR_ok {m : Nat} {l : List Ro} (h : ∀ r ∈ l, ROk m r) (i : Nat) : ROk m (gR l i) := by
  by_cases hi : i < l.length
  · exact h _ (gR_mem hi)
  · have e : gR l i = ro0 := by simp [gR, List.getD, List.getElem?_eq_none (Nat.le_of_not_lt hi)]
    rw [e]
    exact ⟨Nat.zero_le _, by decide, by show (0 : Int) ≤ m; omega, by decide, by decide⟩
theorem Fw.few {m : Nat} {b : Bk} (h : Fw m b) (hm : m ≤ 1000) : FewB b := by
  refine ⟨h.rl, by have := h.ol; omega, fun i hi => ?_, h.sh, ?_, fun i hi => ?_, fun i hi => (h.ro _ (gR_mem hi)).2.2.2⟩
  · have := (h.ro _ (gR_mem hi)).1; omega
  · have := h.ca; omega
  · have := (h.ro _ (gR_mem hi)).2; omega
theorem Fw.lf {m : Nat} {b : Bk} (h : Fw m b) : ∀ i, i < b.op.length → inI (gE b.op i).lf := fun i hi => (h.en _ (gE_mem hi)).1
theorem Fw.mono {m m' : Nat} {b : Bk} (h : Fw m b) (hm : m ≤ m') : Fw m' b := by
  refine ⟨h.rl, by have := h.ol; omega, h.sh, by have := h.ca; omega, fun r hr => ?_, h.en⟩
  obtain ⟨h1, h2, h3, h4⟩ := h.ro r hr
  exact ⟨by omega, h2, by omega, h4⟩
def beginB (n : Nat) (sh : Int) : Bk := ⟨sh, 0, List.replicate n ro0, []⟩
theorem Fw_begin {n : Nat} {sh : Int} (hn : n ≤ 1000) (h0 : 0 ≤ sh) (h1 : sh ≤ 1000) : Fw 0 (beginB n sh) := by
  refine ⟨by simp [beginB]; exact hn, by simp [beginB], ⟨h0, h1⟩, ⟨(by show (0:Int) ≤ 0; omega), (by show (0:Int) ≤ ((0:Nat):Int); omega)⟩, fun r hr => ?_, fun e he => by simp [beginB] at he⟩
  have e := List.eq_of_mem_replicate hr
  rw [e]
  exact ⟨by decide, by decide, by decide, by decide, by decide⟩
theorem usedF_ok {m : Nat} {r : Ro} (h : ROk m r) (n t wi : Int) (ht : inI t) : ROk (m + 1) (usedF r n t wi) := by
  obtain ⟨h1, h2, h3, h4⟩ := h
  refine ⟨?_, ?_, ?_, ht⟩
  · show (List.drop _ _).length ≤ _
    rw [List.length_drop, List.length_append]
    simp only [List.length_cons, List.length_nil]
    omega
  · show 0 ≤ (if r.sec = t then r.cnt else 0) + 1
    split <;> omega
  · show (if r.sec = t then r.cnt else 0) + 1 ≤ ((m + 1 : Nat) : Int)
    split <;> omega
theorem Fw_add {m : Nat} {b : Bk} (h : Fw m b) (sk wi : Int) (o : Od) (ep : Int) (ht : inI o.t) (hp : inI o.p) (hq : inI o.q) : Fw (m + 1) (addF sk wi b o ep) := by
  refine ⟨?_, ?_, h.sh, ?_, fun r hr => ?_, fun e he => ?_⟩
  · show (List.set _ _ _).length ≤ _
    rw [List.length_set]; exact h.rl
  · show (_ ++ _ : List En).length ≤ _
    rw [List.length_append]
    have := h.ol
    simp only [List.length_cons, List.length_nil]
    omega
  · show 0 ≤ b.ca + 1 ∧ b.ca + 1 ≤ _
    have := h.ca
    omega
  · rcases List.mem_or_eq_of_mem_set hr with h1 | h1
    · obtain ⟨h1, h2, h3, h4⟩ := h.ro r h1
      exact ⟨by omega, h2, by omega, h4⟩
    · rw [h1]
      exact usedF_ok (gR_ok h.ro _) _ _ _ ht
  · have he' : e ∈ b.op ++ [_] := he
    rcases List.mem_append.1 he' with h1 | h1
    · exact h.en e h1
    · simp only [List.mem_cons, List.not_mem_nil, or_false] at h1
      rw [h1]
      exact ⟨hq, hp⟩
theorem delE_mem {l : List En} {i : Nat} {e : En} (h : e ∈ delE l i) : e ∈ l := by
  rcases List.mem_append.1 h with h1 | h1
  · exact List.mem_of_mem_take h1
  · exact List.mem_of_mem_drop h1
theorem delE_le (l : List En) (i : Nat) : (delE l i).length ≤ l.length := by
  unfold delE
  rw [List.length_append, List.length_take, List.length_drop]
  omega
theorem Fw_op {m : Nat} {b : Bk} (h : Fw m b) (op : List En) (hl : op.length ≤ m) (he : ∀ e ∈ op, EOk e) : Fw m ⟨b.sh, b.ca, b.rows, op⟩ := ⟨h.rl, hl, h.sh, h.ca, h.ro, he⟩
theorem Fw_fill {m : Nat} {b : Bk} (h : Fw m b) (k q : Int) : Fw m (fillF b k q).1 := by
  unfold fillF
  split
  · exact h
  · rename_i hq
    split
    · rename_i hp
      split
      · exact h
      · rename_i hl
        split
        · exact Fw_op h _ (by have := delE_le b.op (posE b.op k); have := h.ol; omega) (fun e he => h.en e (delE_mem he))
        · refine Fw_op h _ (by rw [List.length_set]; exact h.ol) (fun e he => ?_)
          rcases List.mem_or_eq_of_mem_set he with h1 | h1
          · exact h.en e h1
          · rw [h1]
            obtain ⟨h2, h3⟩ := h.en _ (gE_mem hp)
            refine ⟨?_, h3⟩
            show inI (_ - q)
            obtain ⟨h4, h5⟩ := h2
            exact ⟨by omega, by omega⟩
    · exact h
theorem Fw_ack {m : Nat} {b : Bk} (h : Fw m b) (k : Int) : Fw m (ackF b k).1 := by
  unfold ackF
  split
  · split
    · exact h
    · exact Fw_op h _ (by have := delE_le b.op (posE b.op k); have := h.ol; omega) (fun e he => h.en e (delE_mem he))
  · exact h
theorem Fw_cancel {m : Nat} {b : Bk} (h : Fw m b) (k : Int) : Fw m (cancelF b k).1 := by
  unfold cancelF
  split
  · rename_i hp
    split
    · exact h
    · refine Fw_op h _ (by rw [List.length_set]; exact h.ol) (fun e he => ?_)
      rcases List.mem_or_eq_of_mem_set he with h1 | h1
      · exact h.en e h1
      · rw [h1]
        exact (h.en _ (gE_mem hp) : EOk (gE b.op (posE b.op k)))
  · exact h
end Go.Proofs.Ytkmkaidhpbjbnaa.Bkq

/- Plain facts on float64 words: the word of a sign and a rung; order, rounding and whole part go by the rung. No program is named here. -/
namespace Go.Proofs.Ytkmkaidhpbjbnaa.Flo
set_option maxRecDepth 100000
open Ieee

def B : Nat := 4503599627370496
def INF : Nat := 9218868437227405312
def SGN : Nat := 9223372036854775808

def mag (R : Nat) : Nat := if R < B then R else B + R % B
def lift (R : Nat) : Nat := if R < B then 0 else R / B - 1
/-- the number of a rung, in units of 2^-1074 -/
def N (R : Nat) : Nat := mag R * 2 ^ lift R

theorem read_fin (s : Bool) (R : Nat) (h : R < INF) : double.read (double.word s R) = .number s (mag R) (-1074 + (lift R : Int)) := by
  have e1 : double.signWeight = SGN := rfl
  have e2 : double.binade = B := rfl
  have e3 : double.infRung = INF := rfl
  have e4 : double.leastPlace = -1074 := rfl
  have hlt : R < SGN := by unfold INF at h; unfold SGN; omega
  have hs : (double.word s R) / SGN % 2 = (if s then 1 else 0) ∧ (double.word s R) % SGN = R := by
    unfold Format.word; rw [e1]; unfold SGN at *
    cases s <;> simp <;> omega
  unfold Format.read
  rw [e1, e2, e3, e4, hs.1, hs.2]
  unfold mag lift
  by_cases hb : R < B
  · cases s <;> simp [hb]
  · cases s <;> simp [hb, h]
theorem read_inf (s : Bool) : double.read (double.word s INF) = .infinity s := by
  have e1 : double.signWeight = SGN := rfl
  have e2 : double.binade = B := rfl
  have e3 : double.infRung = INF := rfl
  have hs : (double.word s INF) / SGN % 2 = (if s then 1 else 0) ∧ (double.word s INF) % SGN = INF := by
    unfold Format.word; rw [e1]; unfold SGN INF
    cases s <;> simp
  have hb : ¬ INF < B := by unfold INF B; omega
  unfold Format.read
  rw [e1, e2, e3, hs.1, hs.2]
  cases s <;> simp [hb]

theorem N_small {R : Nat} (h : R < B) : N R = R := by unfold N mag lift; simp [h]
theorem N_big {R : Nat} (h : ¬ R < B) : N R = (B + R % B) * 2 ^ (R / B - 1) := by unfold N mag lift; simp [h]

theorem N_lt {R S : Nat} (h : R < S) : N R < N S := by
  by_cases hs : S < B
  · rw [N_small hs, N_small (by omega)]; exact h
  · rw [N_big hs]
    have hq : 1 ≤ S / B := by unfold B at *; omega
    by_cases hr : R < B
    · rw [N_small hr]
      have : 1 ≤ 2 ^ (S / B - 1) := Nat.one_le_two_pow
      have : (B + S % B) * 1 ≤ (B + S % B) * 2 ^ (S / B - 1) := Nat.mul_le_mul_left _ this
      omega
    · rw [N_big hr]
      have hq' : 1 ≤ R / B := by unfold B at *; omega
      by_cases he : R / B = S / B
      · rw [he]
        exact Nat.mul_lt_mul_of_pos_right (by unfold B at *; omega) (Nat.two_pow_pos _)
      · have hlt : R / B < S / B := by have := Nat.div_le_div_right (c := B) (Nat.le_of_lt h); omega
        have h1 : (B + R % B) * 2 ^ (R / B - 1) < (2 * B) * 2 ^ (R / B - 1) := Nat.mul_lt_mul_of_pos_right (by unfold B at *; omega) (Nat.two_pow_pos _)
        have h2 : (2 * B) * 2 ^ (R / B - 1) = B * 2 ^ (R / B) := by
          rw [Nat.mul_comm 2 B, Nat.mul_assoc, ← Nat.pow_succ']; congr 2; omega
        have h3 : B * 2 ^ (R / B) ≤ B * 2 ^ (S / B - 1) := Nat.mul_le_mul_left _ (Nat.pow_le_pow_right (by omega) (by omega))
        have h4 : B * 2 ^ (S / B - 1) ≤ (B + S % B) * 2 ^ (S / B - 1) := Nat.mul_le_mul_right _ (by omega)
        omega
theorem N_le {R S : Nat} (h : R ≤ S) : N R ≤ N S := by
  by_cases he : R = S
  · rw [he]; exact Nat.le_refl _
  · exact Nat.le_of_lt (N_lt (by omega))
/-! rounding -/
def up (q r g : Nat) : Bool := decide (g < 2 * r) || (decide (g = 2 * r) && decide (q % 2 = 1))
def rne (V L : Nat) : Nat := V / 2 ^ L + (up (V / 2 ^ L) (V % 2 ^ L) (2 ^ L)).toNat

theorem toNat_le (b : Bool) : b.toNat ≤ 1 := by cases b <;> simp

theorem rne_mono {V W L : Nat} (h : V ≤ W) : rne V L ≤ rne W L := by
  unfold rne
  have hq : V / 2 ^ L ≤ W / 2 ^ L := Nat.div_le_div_right h
  by_cases he : V / 2 ^ L = W / 2 ^ L
  · rw [he]
    have hv := Nat.div_add_mod V (2 ^ L)
    have hw := Nat.div_add_mod W (2 ^ L)
    rw [he] at hv
    have hr : V % 2 ^ L ≤ W % 2 ^ L := by omega
    have : (up (W / 2 ^ L) (V % 2 ^ L) (2 ^ L)).toNat ≤ (up (W / 2 ^ L) (W % 2 ^ L) (2 ^ L)).toNat := by
      generalize V % 2 ^ L = r1 at *
      generalize W % 2 ^ L = r2 at *
      generalize 2 ^ L = g at *
      unfold up
      by_cases h1 : g < 2 * r2
      · simp [h1]; exact toNat_le _
      · by_cases h2 : r1 = r2
        · rw [h2]; exact Nat.le_refl _
        · have a1 : ¬ g < 2 * r1 := by omega
          have a2 : ¬ g = 2 * r1 := by omega
          simp [a1, a2]
    omega
  · have := toNat_le (up (V / 2 ^ L) (V % 2 ^ L) (2 ^ L))
    omega
theorem rne_hi {V L : Nat} (h : V < 2 * B * 2 ^ L) : rne V L ≤ 2 * B := by
  unfold rne
  have := toNat_le (up (V / 2 ^ L) (V % 2 ^ L) (2 ^ L))
  have : V / 2 ^ L < 2 * B := (Nat.div_lt_iff_lt_mul (Nat.two_pow_pos _)).2 h
  omega
theorem rne_lo {V L : Nat} (h : B * 2 ^ L ≤ V) : B ≤ rne V L := by
  unfold rne
  have : B ≤ V / 2 ^ L := (Nat.le_div_iff_mul_le (Nat.two_pow_pos _)).2 h
  omega

theorem beq_dec (a b : Nat) : (a == b) = decide (a = b) := rfl
theorem cut_even (neg : Bool) (n d : Nat) : Toward.even.cut neg n d = rne n d := by
  unfold Toward.cut rne up
  simp only [Nat.shiftLeft_eq, Nat.one_mul, beq_dec]
  by_cases hd : d ≤ n.log2 + 2
  · rw [Nat.min_eq_left hd]
  · rw [Nat.min_eq_right (by omega)]
    have h1 : n < 2 ^ (n.log2 + 1) := Nat.lt_log2_self
    have h2 : 2 ^ (n.log2 + 2) = 2 * 2 ^ (n.log2 + 1) := Nat.pow_succ'
    have h3 : 2 ^ (n.log2 + 2) ≤ 2 ^ d := Nat.pow_le_pow_right (by omega) (by omega)
    rw [Nat.div_eq_of_lt (b := 2 ^ (n.log2 + 2)) (by omega), Nat.div_eq_of_lt (b := 2 ^ d) (by omega), Nat.mod_eq_of_lt (b := 2 ^ (n.log2 + 2)) (by omega), Nat.mod_eq_of_lt (b := 2 ^ d) (by omega)]
    have a1 : ¬ 2 ^ (n.log2 + 2) < 2 * n := by omega
    have a2 : ¬ 2 ^ d < 2 * n := by omega
    simp [a1, a2]
theorem cut_zero (neg : Bool) (n d : Nat) : Toward.zero.cut neg n d = n / 2 ^ d := by
  unfold Toward.cut
  simp only [Nat.shiftLeft_eq, Nat.one_mul, Bool.toNat_false, Nat.add_zero]
  by_cases hd : d ≤ n.log2 + 2
  · rw [Nat.min_eq_left hd]
  · rw [Nat.min_eq_right (by omega)]
    have h1 : n < 2 ^ (n.log2 + 1) := Nat.lt_log2_self
    have h2 : 2 ^ (n.log2 + 2) = 2 * 2 ^ (n.log2 + 1) := Nat.pow_succ'
    have h3 : 2 ^ (n.log2 + 2) ≤ 2 ^ d := Nat.pow_le_pow_right (by omega) (by omega)
    rw [Nat.div_eq_of_lt (by omega), Nat.div_eq_of_lt (by omega)]

/-- the place of the last digit of V, in units of 2^-c -/
def lastOf (c V : Nat) : Nat := max (V.log2 - 52) (c - 1074)
def rg (c V : Nat) : Nat := if V = 0 then 0 else min ((lastOf c V - (c - 1074)) * B + rne V (lastOf c V)) INF

theorem log2_shift (m a : Nat) (h : m ≠ 0) : (m * 2 ^ a).log2 = m.log2 + a := by
  have hm : 0 < m * 2 ^ a := Nat.mul_pos (by omega) (Nat.two_pow_pos _)
  have h1 : 2 ^ m.log2 ≤ m := Nat.log2_self_le h
  have h2 : m < 2 ^ (m.log2 + 1) := Nat.lt_log2_self
  rw [Nat.log2_eq_iff (by omega)]
  refine ⟨?_, ?_⟩
  · rw [Nat.pow_add]; exact Nat.mul_le_mul_right _ h1
  · rw [show m.log2 + a + 1 = (m.log2 + 1) + a by omega, Nat.pow_add]
    exact Nat.mul_lt_mul_of_pos_right h2 (Nat.two_pow_pos _)

theorem rne_scale (m a L : Nat) (h : a < L) : rne m (L - a) = rne (m * 2 ^ a) L := by
  unfold rne
  have e : 2 ^ L = 2 ^ (L - a) * 2 ^ a := by rw [← Nat.pow_add]; congr 1; omega
  have hp : 0 < 2 ^ a := Nat.two_pow_pos _
  have e1 : m * 2 ^ a / 2 ^ L = m / 2 ^ (L - a) := by rw [e]; exact Nat.mul_div_mul_right _ _ hp
  have e2 : m * 2 ^ a % 2 ^ L = m % 2 ^ (L - a) * 2 ^ a := by rw [e]; exact Nat.mul_mod_mul_right ..
  rw [e1, e2, e]
  generalize m / 2 ^ (L - a) = q
  generalize m % 2 ^ (L - a) = r
  generalize 2 ^ (L - a) = g
  generalize 2 ^ a = t at *
  unfold up
  have k1 : (g * t < 2 * (r * t)) ↔ g < 2 * r := by
    rw [← Nat.mul_assoc]; exact Nat.mul_lt_mul_right hp
  have k2 : (g * t = 2 * (r * t)) ↔ g = 2 * r := by
    rw [← Nat.mul_assoc]; exact Nat.mul_left_inj (by omega)
  simp only [k1, k2]
theorem rne_exact (m a L : Nat) (h : L ≤ a) : rne (m * 2 ^ a) L = m * 2 ^ (a - L) := by
  have e : m * 2 ^ a = m * 2 ^ (a - L) * 2 ^ L := by rw [Nat.mul_assoc, ← Nat.pow_add]; congr 2; omega
  have hp : 0 < 2 ^ L := Nat.two_pow_pos _
  unfold rne
  rw [e, Nat.mul_div_cancel _ hp, Nat.mul_mod_left]
  unfold up
  simp

theorem nearest_rg (neg : Bool) (m : Nat) (e : Int) (c : Nat) (hc : 1074 ≤ c) (he : 0 ≤ e + c) :
    double.nearest neg m e = double.word neg (rg c (m * 2 ^ (e + c).toNat)) := by
  unfold Format.nearest rg
  by_cases hm : m = 0
  · subst hm; simp
  · have hV : ¬ m * 2 ^ (e + c).toNat = 0 := by
      have := Nat.mul_pos (show 0 < m by omega) (Nat.two_pow_pos (e + c).toNat); omega
    simp only [hm, hV, if_false]
    have e2 : double.binade = B := rfl
    have e3 : double.infRung = INF := rfl
    have e4 : double.leastPlace = -1074 := rfl
    have e5 : double.fractionBits = 52 := rfl
    rw [e2, e3, e4, e5, cut_even]
    obtain ⟨a, ha⟩ : ∃ a : Nat, e + c = a := ⟨(e + c).toNat, by omega⟩
    have hlog := log2_shift m a hm
    rw [ha, Int.toNat_natCast]
    have hL : max (e + (m.log2 : Int) - 52) (-1074) + c = (lastOf c (m * 2 ^ a) : Int) := by
      unfold lastOf; rw [hlog]; omega
    have hLe : c - 1074 ≤ lastOf c (m * 2 ^ a) := by unfold lastOf; omega
    generalize hLL : lastOf c (m * 2 ^ a) = L at *
    generalize max (e + (m.log2 : Int) - 52) (-1074) = last at *
    have k1 : (last - -1074).toNat = L - (c - 1074) := by omega
    have k2 : (e - last).toNat = a - L := by omega
    have k3 : (last - e).toNat = L - a := by omega
    have k4 : ((52 : Nat) : Int) = 52 := rfl
    simp only [k1, k2, k3]
    congr 3
    by_cases hal : a < L
    · rw [show a - L = 0 by omega, Nat.shiftLeft_zero]; exact rne_scale m a L hal
    · rw [show L - a = 0 by omega, Nat.shiftLeft_eq, rne_exact m a L (by omega)]
      have := rne_exact (m * 2 ^ (a - L)) 0 0 (Nat.le_refl _)
      simpa only [Nat.pow_zero, Nat.mul_one, Nat.sub_zero] using this

theorem p53 : (2 : Nat) ^ 53 = 2 * B := by unfold B; decide
theorem p52 : (2 : Nat) ^ 52 = B := by unfold B; decide
theorem min_mono {a b c : Nat} (h : a ≤ b) : min a c ≤ min b c := by omega
theorem glue {x y b r1 r2 : Nat} (h : x + 1 ≤ y) (a1 : r1 ≤ 2 * b) (a2 : b ≤ r2) : x * b + r1 ≤ y * b + r2 := by
  have := Nat.mul_le_mul_right b h
  rw [Nat.add_mul] at this
  omega
theorem rg_mono {c V W : Nat} (h : V ≤ W) : rg c V ≤ rg c W := by
  unfold rg
  by_cases hv : V = 0
  · simp [hv]
  · have hw : ¬ W = 0 := by omega
    simp only [hv, hw, if_false]
    have hl : V.log2 ≤ W.log2 := by
      rw [Nat.le_log2 hw]; exact Nat.le_trans (Nat.log2_self_le hv) h
    have hLL : lastOf c V ≤ lastOf c W := by unfold lastOf; omega
    refine min_mono ?_
    by_cases he : lastOf c V = lastOf c W
    · rw [he]; exact Nat.add_le_add_left (rne_mono h) _
    · have hbig : lastOf c W = W.log2 - 52 ∧ 52 ≤ W.log2 := by unfold lastOf at *; omega
      have hVup : V < 2 * B * 2 ^ (lastOf c V) := by
        have h2 : V < 2 ^ (V.log2 + 1) := Nat.lt_log2_self
        have hk : V.log2 + 1 ≤ lastOf c V + 53 := by unfold lastOf; omega
        have h3 := Nat.pow_le_pow_right (n := 2) (by omega) hk
        rw [Nat.pow_add 2 (lastOf c V) 53, p53, Nat.mul_comm] at h3
        exact Nat.lt_of_lt_of_le h2 h3
      have hWlo : B * 2 ^ (lastOf c W) ≤ W := by
        have h2 : 2 ^ W.log2 ≤ W := Nat.log2_self_le hw
        have hk : W.log2 = lastOf c W + 52 := by omega
        rw [hk, Nat.pow_add 2 (lastOf c W) 52, p52, Nat.mul_comm] at h2
        exact h2
      have a1 := rne_hi hVup
      have a2 := rne_lo hWlo
      have a3 : c - 1074 ≤ lastOf c V := by unfold lastOf; omega
      exact glue (by omega) a1 a2
theorem rg_inf (c V : Nat) : rg c V ≤ INF := by
  unfold rg; split
  · exact Nat.zero_le _
  · exact Nat.min_le_right ..

/-! order -/
theorem cmp_eq {a b : Int} {c d : Nat} (h1 : a < b ↔ c < d) (h2 : a = b ↔ c = d) : compare a b = compare c d := by
  show compareOfLessAndEq a b = compareOfLessAndEq c d
  unfold compareOfLessAndEq
  simp only [h1, h2]
theorem signed_eq (s : Bool) (m u : Nat) (h : s = true → m = 0) : signed s m u = ((m * 2 ^ u : Nat) : Int) := by
  unfold signed
  cases s with
  | false => simp [Nat.shiftLeft_eq]
  | true => have := h rfl; subst this; simp
theorem mag_zero : mag 0 = 0 := rfl
theorem N_split (R z : Nat) (h : z ≤ lift R) : N R = mag R * 2 ^ (lift R - z) * 2 ^ z := by
  unfold N; rw [Nat.mul_assoc, ← Nat.pow_add]; congr 2; omega
theorem order_word (s t : Bool) (R S : Nat) (hR : R ≤ INF) (hS : S ≤ INF) (hs : s = true → R = 0) (ht : t = true → S = 0) :
    double.order (double.word s R) (double.word t S) = some (compare R S) := by
  have hi0 : ¬ INF = 0 := by unfold INF; omega
  unfold Format.order
  by_cases h1 : R = INF
  · have hsf : s = false := by cases s <;> simp_all
    rw [h1, read_inf]
    by_cases h2 : S = INF
    · have htf : t = false := by cases t <;> simp_all
      rw [h2, read_inf, hsf, htf]
      rw [Nat.compare_eq_eq.2 rfl]; rfl
    · rw [read_fin t S (by omega), hsf]
      show some Ordering.gt = _
      congr 1
      exact (Nat.compare_eq_gt.2 (by omega)).symm
  · by_cases h2 : S = INF
    · have htf : t = false := by cases t <;> simp_all
      rw [h2, read_inf, read_fin s R (by omega), htf]
      show some Ordering.lt = _
      congr 1
      exact (Nat.compare_eq_lt.2 (by omega)).symm
    · rw [read_fin s R (by omega), read_fin t S (by omega)]
      show some (compare _ _) = _
      congr 1
      obtain ⟨z, hz⟩ : ∃ z : Nat, z = min (lift R) (lift S) := ⟨_, rfl⟩
      have k1 : (-1074 + (lift R : Int) - min (-1074 + (lift R : Int)) (-1074 + (lift S : Int))).toNat = lift R - z := by omega
      have k2 : (-1074 + (lift S : Int) - min (-1074 + (lift R : Int)) (-1074 + (lift S : Int))).toNat = lift S - z := by omega
      rw [k1, k2, signed_eq s _ _ (fun h => by rw [hs h]; rfl), signed_eq t _ _ (fun h => by rw [ht h]; rfl)]
      have n1 := N_split R z (by omega)
      have n2 := N_split S z (by omega)
      have hp : 0 < 2 ^ z := Nat.two_pow_pos _
      have m1 : (N R < N S) ↔ R < S := ⟨fun h => by
        by_cases g : R < S
        · exact g
        · have := N_le (show S ≤ R by omega); omega, N_lt⟩
      have m2 : (N R = N S) ↔ R = S := ⟨fun h => by
        by_cases g : R < S
        · have := N_lt g; omega
        · by_cases g' : S < R
          · have := N_lt g'; omega
          · omega, fun h => by rw [h]⟩
      refine cmp_eq ?_ ?_
      · rw [← m1, n1, n2, Nat.mul_lt_mul_right hp]; exact Int.ofNat_lt
      · rw [← m2, n1, n2, Nat.mul_left_inj (by omega)]; exact Int.ofNat_inj

/-! the whole part -/
def D (R : Nat) : Nat := N R / 2 ^ 1074
theorem D_mono {R S : Nat} (h : R ≤ S) : D R ≤ D S := Nat.div_le_div_right (N_le h)
theorem div_lo (m k z : Nat) (h : k < z) : m / 2 ^ (z - k) = m * 2 ^ k / 2 ^ z := by
  have e : 2 ^ z = 2 ^ (z - k) * 2 ^ k := by rw [← Nat.pow_add]; congr 1; omega
  rw [e, Nat.mul_div_mul_right _ _ (Nat.two_pow_pos _)]
theorem div_hi (m k z : Nat) (h : z ≤ k) : m * 2 ^ (k - z) = m * 2 ^ k / 2 ^ z := by
  have e : m * 2 ^ k = m * 2 ^ (k - z) * 2 ^ z := by rw [Nat.mul_assoc, ← Nat.pow_add]; congr 2; omega
  rw [e, Nat.mul_div_cancel _ (Nat.two_pow_pos _)]
theorem toInt_word (s : Bool) (R : Nat) (hR : R < INF) (hs : s = true → R = 0) :
    (double.read (double.word s R)).toInt .zero = some (D R : Int) := by
  rw [read_fin s R hR]
  unfold Datum.toInt Datum.integral
  simp only [cut_zero]
  rw [signed_eq]
  · simp only [Nat.pow_zero, Nat.mul_one, Nat.shiftLeft_eq]
    congr 2
    unfold D N
    by_cases h : lift R < 1074
    · rw [show (-1074 + (lift R : Int)).toNat = 0 by omega, show (-(-1074 + (lift R : Int))).toNat = 1074 - lift R by omega, Nat.pow_zero, Nat.mul_one]
      exact div_lo _ _ _ h
    · rw [show (-1074 + (lift R : Int)).toNat = lift R - 1074 by omega, show (-(-1074 + (lift R : Int))).toNat = 0 by omega, Nat.pow_zero, Nat.div_one]
      exact div_hi _ _ _ (by omega)
  · intro h; rw [hs h]; simp [mag_zero]

/-- the rung of 2^40 -/
def R40 : Nat := 4787326403894837248
theorem D_40 : D R40 = 1099511627776 := by decide +kernel
theorem D_le {R : Nat} (h : R ≤ R40) : D R ≤ 1099511627776 := by have := D_mono h; rw [D_40] at this; exact this
theorem toIntVal_word (s : Bool) (R : Nat) (hR : R ≤ R40) (hs : s = true → R = 0) :
    floatToIntVal .f64 (double.word s R) .i64 = some (D R : Int) := by
  have hd := D_le hR
  have hi : R < INF := by unfold R40 at hR; unfold INF; omega
  unfold floatToIntVal
  have e := toInt_word s R hi hs
  rw [show FloatKind.decode .f64 (double.word s R) = double.read (double.word s R) from rfl, e]
  have h1 : IntKind.i64.min ≤ (D R : Int) ∧ (D R : Int) ≤ IntKind.i64.max := by
    have a : IntKind.i64.min = -9223372036854775808 := rfl
    have b : IntKind.i64.max = 9223372036854775807 := rfl
    rw [a, b]; omega
  simp only [h1, and_self, if_true]

/-! a whole number as a float -/
def RP (p : Nat) : Nat := rg 1074 (p * 2 ^ 1074)
theorem ofInt_word (n : Int) (hn : 0 ≤ n) : floatOfInt .f64 n = double.word false (RP n.toNat) := by
  unfold floatOfInt FloatKind.nearest FloatKind.encode
  show double.nearest (decide (n < 0)) n.natAbs 0 = _
  rw [nearest_rg _ _ _ 1074 (by omega) (by omega)]
  have e1 : decide (n < 0) = false := by simp; omega
  have e2 : n.natAbs = n.toNat := by omega
  have e3 : ((0 : Int) + ((1074 : Nat) : Int)).toNat = 1074 := by omega
  rw [e1, e2, e3, RP]
theorem RP_bd (p : Nat) (h : 1 ≤ p) (h' : p ≤ 1099511627776) : 0 < RP p ∧ RP p < INF := by
  have hm : ∀ a b : Nat, a ≤ b → RP a ≤ RP b := fun a b hab => rg_mono (Nat.mul_le_mul_right _ hab)
  have a1 : RP 1 = 4607182418800017408 := by decide +kernel
  have a2 : RP 1099511627776 = R40 := by decide +kernel
  have := hm _ _ h
  have := hm _ _ h'
  rw [a1] at *; rw [a2] at *
  unfold R40 at *; unfold INF
  omega

/-! the product -/
def PR (P R : Nat) : Nat := if R = INF then INF else rg 2148 (N P * N R)
theorem PR_inf (P R : Nat) : PR P R ≤ INF := by
  unfold PR; split
  · exact Nat.le_refl _
  · exact rg_inf _ _
theorem PR_zero (P : Nat) : PR P 0 = 0 := by
  unfold PR; rw [if_neg (by unfold INF; omega)]
  have : N 0 = 0 := rfl
  rw [this, Nat.mul_zero]; rfl
theorem mag_pos {R : Nat} (h : 0 < R) : mag R ≠ 0 := by
  unfold mag; split
  · omega
  · unfold B; omega
theorem mul_word (P R : Nat) (t : Bool) (hP : 0 < P) (hP' : P < INF) (hR : R ≤ INF) (ht : t = true → R = 0) :
    floatBits .mul .f64 (double.word false P) (double.word t R) = some (double.word t (PR P R)) := by
  show (((double.read (double.word false P)).product (double.read (double.word t R))).map double.write) = _
  rw [read_fin false P hP']
  by_cases h : R = INF
  · have hi0 : ¬ INF = 0 := by unfold INF; omega
    have htf : t = false := by cases t <;> simp_all
    rw [h, read_inf, htf]
    unfold Datum.product
    have := mag_pos hP
    simp only [this, if_false, Option.map_some]
    unfold PR; rw [if_pos rfl]; rfl
  · rw [read_fin t R (by omega)]
    unfold Datum.product
    simp only [Option.map_some]
    congr 1
    show double.nearest (false ^^ t) _ _ = _
    rw [nearest_rg _ _ _ 2148 (by omega) (by omega)]
    unfold PR; rw [if_neg h]
    have e : mag P * mag R * 2 ^ ((-1074 + (lift P : Int)) + (-1074 + (lift R : Int)) + (2148 : Nat)).toNat = N P * N R := by
      rw [show ((-1074 + (lift P : Int)) + (-1074 + (lift R : Int)) + (2148 : Nat)).toNat = lift P + lift R by omega]
      unfold N
      rw [Nat.pow_add, Nat.mul_mul_mul_comm]
    rw [e, Bool.false_xor]

/-! fractions -/
theorem sgn_neg (m u : Nat) : signed true m u = -((m * 2 ^ u : Nat) : Int) := by simp [signed, Nat.shiftLeft_eq]
theorem sgn_zero (u : Nat) : signed false 0 u = 0 := by simp [signed]
theorem cmp_neg (n : Nat) (h : 0 < n) : compare (-(n : Int)) 0 = .lt := by
  show compareOfLessAndEq _ _ = _
  unfold compareOfLessAndEq
  rw [if_pos (by omega)]
/-- a fraction: 0 or above, infinite too, or -0 -/
def Frac (b : Nat) : Prop := ∃ t R, b = double.word t R ∧ R ≤ INF ∧ (t = true → R = 0)
def rungOf (b : Nat) : Nat := b % SGN
theorem word_rung (t : Bool) (R : Nat) (h : R ≤ INF) : rungOf (double.word t R) = R := by
  unfold rungOf Format.word
  have e1 : double.signWeight = SGN := rfl
  rw [e1]; unfold INF at h; unfold SGN
  cases t <;> simp <;> omega
def rightB (b : Nat) : Bool := FloatKind.f64.format.order b 0 == some .gt || FloatKind.f64.format.order b 0 == some .eq
theorem right_iff {b : Nat} (hb : b < 18446744073709551616) : rightB b = true ↔ Frac b := by
  have z : (0 : Nat) = double.word false 0 := rfl
  constructor
  · intro h
    have hbw : b = double.word (decide (SGN ≤ b)) (rungOf b) := by
      unfold Format.word rungOf
      have e1 : double.signWeight = SGN := rfl
      rw [e1]; unfold SGN
      by_cases g : 9223372036854775808 ≤ b
      · simp [g]; omega
      · simp [g]; omega
    by_cases hi : rungOf b ≤ INF
    · refine ⟨decide (SGN ≤ b), rungOf b, hbw, hi, fun hneg => ?_⟩
      by_cases h0 : rungOf b = 0
      · exact h0
      · exfalso
        unfold rightB at h
        rw [hneg] at hbw
        rw [show FloatKind.f64.format = double from rfl] at h
        have : double.order b 0 = some .lt := by
          unfold Format.order
          rw [hbw]
          by_cases hinf : rungOf b = INF
          · rw [hinf, read_inf]; rfl
          · rw [read_fin true (rungOf b) (by omega), show double.read 0 = .number false 0 (-1074) from rfl]
            show some (compare _ _) = _
            congr 1
            have hpos := mag_pos (R := rungOf b) (by omega)
            rw [sgn_neg, sgn_zero]
            have := Nat.mul_pos (Nat.pos_of_ne_zero hpos) (Nat.two_pow_pos ((-1074 + (lift (rungOf b) : Int) - min (-1074 + (lift (rungOf b) : Int)) (-1074))).toNat)
            exact cmp_neg _ this
        rw [this] at h
        simp at h
    · exfalso
      unfold rightB at h
      rw [show FloatKind.f64.format = double from rfl] at h
      have : double.order b 0 = none := by
        unfold Format.order
        have : ∃ s t, double.read b = .nan s t := by
          unfold Format.read
          have e1 : double.signWeight = SGN := rfl
          have e2 : double.binade = B := rfl
          have e3 : double.infRung = INF := rfl
          rw [e1, e2, e3]
          have c1 : ¬ b % SGN < B := by unfold rungOf INF SGN at hi; unfold SGN B; omega
          have c2 : ¬ b % SGN < INF := by unfold rungOf at hi; omega
          have c3 : ¬ b % SGN = INF := by unfold rungOf at hi; omega
          simp only [c1, c2, c3, if_false]
          exact ⟨_, _, rfl⟩
        obtain ⟨s, t, e⟩ := this
        rw [e]; rfl
      rw [this] at h
      simp at h
  · rintro ⟨t, R, rfl, hR, ht⟩
    unfold rightB
    rw [show FloatKind.f64.format = double from rfl]
    have := order_word t false R 0 hR (Nat.zero_le _) ht (by simp)
    rw [← z] at this
    rw [this]
    by_cases h0 : R = 0
    · rw [h0]; rfl
    · rw [Nat.compare_eq_gt.2 (by omega)]; rfl
end Go.Proofs.Ytkmkaidhpbjbnaa.Flo

/- The contracts of package band and of its reference: each call answers by the rung of the fraction. Conditions stand at each theorem. -/
namespace Go.Proofs.Ytkmkaidhpbjbnaa.Bnd
set_option maxRecDepth 100000
open Go.ChangeShapes Go.WideShapes Go.ChangeAt Go.RowKit Flo

theorem run18 (n : Int) (w : Go.World) : (callFunc 13 #[.int .u64 n]).run Try.prog w = .ok (.value (.float .f64 n.toNat)) w :=
  run_callFunc_extern Try.func13 (by kernel_rfl) (by kernel_rfl) (by kernel_rfl) (e := Extern.MathFloatBits.float64frombits) (by kernel_rfl) _ w
theorem right_any (b : Nat) (w : Go.World) :
    Calls Try.prog 68 #[.float .f64 b] w fun e w' => e = .returned (.bool (rightB b)) ∧ w = w' := by
  go_enter Try.func68, Try.ntmps68
  go_wp2
  go_ret
  exact ⟨rfl, rfl⟩
theorem rright_any (b : Nat) (w : Go.World) :
    Calls Try.prog 22 #[.float .f64 b] w fun e w' => e = .returned (.bool (rightB b)) ∧ w = w' := by
  go_enter Try.func22, Try.ntmps22
  go_wp2
  go_ret
  exact ⟨rfl, rfl⟩
theorem reach_hi (p : Int) (b r : Nat) (w : Go.World) (h : floatBits .mul .f64 (floatOfInt .f64 p) b = some r) (hg : (FloatKind.f64.format.order r 4787326403894837248 == some .gt) = true) :
    Calls Try.prog 93 #[.int .i64 p, .float .f64 b] w fun e w' => e = .returned (.int .i64 1099511627776) ∧ w = w' := by
  have hop : ∀ t w, (binOp .mul t (.float .f64 (floatOfInt .f64 p)) (.float .f64 b)).run Try.prog w = .ok (.float .f64 r) w := fun t w => run_float_arith w .mul t .f64 _ b r h
  clear h
  go_enter Try.func93, Try.ntmps93
  go_wp2_with (simp only [hop])
  go_ret
  exact ⟨rfl, rfl⟩
theorem reach_lo (p : Int) (b r : Nat) (n : Int) (w : Go.World) (h : floatBits .mul .f64 (floatOfInt .f64 p) b = some r) (hg : (FloatKind.f64.format.order r 4787326403894837248 == some .gt) = false)
    (hn : floatToIntVal .f64 r .i64 = some n) :
    Calls Try.prog 93 #[.int .i64 p, .float .f64 b] w fun e w' => e = .returned (.int .i64 n) ∧ w = w' := by
  have hop : ∀ t w, (binOp .mul t (.float .f64 (floatOfInt .f64 p)) (.float .f64 b)).run Try.prog w = .ok (.float .f64 r) w := fun t w => run_float_arith w .mul t .f64 _ b r h
  have hc : ∀ w, (convert 68 2 (.float .f64 r)).run Try.prog w = .ok (.int .i64 n) w := fun w => run_convert_float_int w 68 2 .f64 .i64 r n (by rw [Try.underlying68]; rfl) Try.underlying2 hn
  clear h hn
  go_enter Try.func93, Try.ntmps93
  go_wp2_with (first | simp only [hop] | simp only [hc])
  go_ret
  exact ⟨rfl, rfl⟩
/-- how far: the whole part of the product, but 2^40 where that is greater -/
def distR (R : Nat) : Int := if R40 < R then 1099511627776 else (D R : Int)
def dist (p : Int) (b : Nat) : Int := distR (PR (RP p.toNat) (rungOf b))
theorem distR_bd (R : Nat) : 0 ≤ distR R ∧ distR R ≤ 1099511627776 := by
  unfold distR; split
  · omega
  · have := D_le (R := R) (by omega); omega
theorem dist_bd (p : Int) (b : Nat) : 0 ≤ dist p b ∧ dist p b ≤ 1099511627776 := distR_bd _
/-- the product's word, and how it stands to 2^40 -/
theorem prod_word (p : Int) (b : Nat) (hp : 1 ≤ p) (hp' : p ≤ 1099511627776) (hb : Frac b) :
    ∃ t, floatBits .mul .f64 (floatOfInt .f64 p) b = some (Ieee.double.word t (PR (RP p.toNat) (rungOf b))) ∧ (t = true → PR (RP p.toNat) (rungOf b) = 0) := by
  obtain ⟨t, R, rfl, h1, h2⟩ := hb
  rw [word_rung t R h1, ofInt_word p (by omega)]
  have hr := RP_bd p.toNat (by omega) (by omega)
  exact ⟨t, mul_word _ R t hr.1 hr.2 h1 h2, fun h => by rw [h2 h, PR_zero]⟩
theorem ord40 (t : Bool) (R : Nat) (hR : R ≤ INF) (ht : t = true → R = 0) : FloatKind.f64.format.order (Ieee.double.word t R) 4787326403894837248 = some (compare R R40) := by
  have := order_word t false R R40 hR (by unfold R40 INF; omega) ht (by simp)
  exact this
theorem reach_any (p : Int) (b : Nat) (w : Go.World) (hp : 1 ≤ p) (hp' : p ≤ 1099511627776) (hb : Frac b) :
    Calls Try.prog 93 #[.int .i64 p, .float .f64 b] w fun e w' => e = .returned (.int .i64 (dist p b)) ∧ w = w' := by
  obtain ⟨t, h1, h2⟩ := prod_word p b hp hp' hb
  have hi := PR_inf (RP p.toNat) (rungOf b)
  unfold dist
  generalize PR (RP p.toNat) (rungOf b) = R at *
  have ho := ord40 t R hi h2
  by_cases hg : R40 < R
  · have e : distR R = 1099511627776 := by unfold distR; rw [if_pos hg]
    rw [e]
    exact reach_hi p b _ w h1 (by rw [ho, Nat.compare_eq_gt.2 hg]; rfl)
  · have e : distR R = D R := by unfold distR; rw [if_neg hg]
    rw [e]
    refine reach_lo p b _ _ w h1 ?_ (toIntVal_word t R (by omega) h2)
    rw [ho]
    by_cases he : R = R40
    · rw [he, Nat.compare_eq_eq.2 rfl]; rfl
    · rw [Nat.compare_eq_lt.2 (by omega)]; rfl
/-! the collar -/
def colB (p : Int) (b : Nat) : Bool := rightB b && decide (1 ≤ p) && decide (p ≤ 1099511627776)
def colLo (p : Int) (b : Nat) : Int := if colB p b then max (p - dist p b) 1 else 0
def colHi (p : Int) (b : Nat) : Int := if colB p b then min (p + dist p b) 1099511627776 else 0
def ToldC (p : Int) (b : Nat) (w : Go.World) (e : Ending) (w' : Go.World) : Prop := e = .returned (.tuple #[.int .i64 (colLo p b), .int .i64 (colHi p b), .bool (colB p b)]) ∧ w = w'

theorem colB_t {p : Int} {b : Nat} (hr : rightB b = true) (hp : 1 ≤ p) (hp' : p ≤ 1099511627776) : colB p b = true := by unfold colB; simp [hr, hp, hp']
theorem colB_f {p : Int} {b : Nat} (h : rightB b = false ∨ p < 1 ∨ 1099511627776 < p) : colB p b = false := by
  unfold colB
  rcases h with h | h | h
  · simp [h]
  · have : ¬ 1 ≤ p := by omega
    simp [this]
  · have : ¬ p ≤ 1099511627776 := by omega
    simp [this]
theorem toldC_mk {p lo hi : Int} {b : Nat} {w : Go.World} (hc : colB p b = true) (h1 : lo = max (p - dist p b) 1) (h2 : hi = min (p + dist p b) 1099511627776) :
    ToldC p b w (.returned (.tuple #[.int .i64 lo, .int .i64 hi, .bool true])) w := by
  refine ⟨?_, rfl⟩
  unfold colLo colHi
  rw [hc, h1, h2]; rfl
theorem toldC_no {p : Int} {b : Nat} {w : Go.World} (hc : colB p b = false) :
    ToldC p b w (.returned (.tuple #[.int .i64 0, .int .i64 0, .bool false])) w := by
  refine ⟨?_, rfl⟩
  unfold colLo colHi
  rw [hc]; rfl
theorem col_any (p : Int) (b : Nat) (w : Go.World) (hb : b < 18446744073709551616) :
    Calls Try.prog 85 #[.int .i64 p, .float .f64 b] w (ToldC p b w) := by
  by_cases hr : rightB b = true
  · have hf := (right_iff hb).1 hr
    have hd1 := (dist_bd p b).1
    have hd2 := (dist_bd p b).2
    by_cases hp : p < 1
    · have hc := Lib.hid (colB_f (p := p) (b := b) (Or.inr (Or.inl hp)))
      go_enter Try.func85, Try.ntmps85
      go_wp2_with (first | (go_at_call 68; refine (right_any _ _).mono ?_; rintro e w' ⟨rfl, rfl⟩))
      go_ret3
      exact toldC_no hc.out
    · by_cases hp' : 1099511627776 < p
      · have hc := Lib.hid (colB_f (p := p) (b := b) (Or.inr (Or.inr hp')))
        go_enter Try.func85, Try.ntmps85
        go_wp2_with (first | (go_at_call 68; refine (right_any _ _).mono ?_; rintro e w' ⟨rfl, rfl⟩))
        go_ret3
        exact toldC_no hc.out
      · have hc := Lib.hid (colB_t hr (p := p) (by omega) (by omega))
        go_enter Try.func85, Try.ntmps85
        go_wp2_with (first | (go_at_call 68; refine (right_any _ _).mono ?_; rintro e w' ⟨rfl, rfl⟩) | (go_at_call 93; refine (reach_any p b _ (by omega) (by omega) hf).mono ?_; rintro e w' ⟨rfl, rfl⟩))
        all_goals (go_ret3; exact toldC_mk hc.out (by omega) (by omega))
  · have hr : rightB b = false := by simpa using hr
    have hc := Lib.hid (colB_f (p := p) (Or.inl hr))
    go_enter Try.func85, Try.ntmps85
    go_wp2_with (first | (go_at_call 68; refine (right_any _ _).mono ?_; rintro e w' ⟨rfl, rfl⟩))
    go_ret3
    exact toldC_no hc.out
/-! within -/
def witB (p x : Int) (b : Nat) : Bool := colB p b && decide (colLo p b ≤ x) && decide (x ≤ colHi p b)
theorem ret_bool {a b : Bool} (h : a = b) : Ending.returned (.bool a) = .returned (.bool b) := by rw [h]
theorem wit_any (p x : Int) (b : Nat) (w : Go.World) (hb : b < 18446744073709551616) :
    Calls Try.prog 73 #[.int .i64 p, .int .i64 x, .float .f64 b] w fun e w' => e = .returned (.bool (witB p x b)) ∧ w = w' := by
  cases hc : colB p b with
  | false =>
    have hw : witB p x b = false := by unfold witB; simp [hc]
    rw [hw]
    clear hw
    go_enter Try.func73, Try.ntmps73
    go_wp2_with (first | (go_at_call 85; refine (col_any _ _ _ hb).mono ?_; rintro e w' ⟨rfl, rfl⟩))
    go_ret
    exact ⟨rfl, rfl⟩
  | true =>
    have hw : witB p x b = (decide (colLo p b ≤ x) && decide (x ≤ colHi p b)) := by unfold witB; simp [hc]
    rw [hw]
    clear hw
    by_cases h1 : colLo p b ≤ x
    · by_cases h2 : x ≤ colHi p b
      · have e : (decide (colLo p b ≤ x) && decide (x ≤ colHi p b)) = true := by simp [h1, h2]
        rw [e]; clear e
        go_enter Try.func73, Try.ntmps73
        go_wp2_with (first | (go_at_call 85; refine (col_any _ _ _ hb).mono ?_; rintro e w' ⟨rfl, rfl⟩))
        go_ret
        exact ⟨rfl, rfl⟩
      · have e : (decide (colLo p b ≤ x) && decide (x ≤ colHi p b)) = false := by simp [h2]
        rw [e]; clear e
        go_enter Try.func73, Try.ntmps73
        go_wp2_with (first | (go_at_call 85; refine (col_any _ _ _ hb).mono ?_; rintro e w' ⟨rfl, rfl⟩))
        go_ret
        exact ⟨ret_bool (by simp [h2]), rfl⟩
    · have e : (decide (colLo p b ≤ x) && decide (x ≤ colHi p b)) = false := by simp [h1]
      rw [e]; clear e
      go_enter Try.func73, Try.ntmps73
      go_wp2_with (first | (go_at_call 85; refine (col_any _ _ _ hb).mono ?_; rintro e w' ⟨rfl, rfl⟩))
      go_ret
      exact ⟨rfl, rfl⟩
/-! the same -/
end Go.Proofs.Ytkmkaidhpbjbnaa.Bnd

/- Opening arguments that are slices of numbers or of pairs, also inside a struct: over any program. No condition. -/
namespace Go.Proofs.Ytkmkaidhpbjbnaa.Opn
set_option maxRecDepth 100000
open Go.ChangeShapes Go.WideShapes Go.RowKit Mem
section
variable {H : Type} {enc : TypeId × Value → H} {P : Program} {w : World}
theorem open_i64c {t e : TypeId} {fuel : Nat} {v : Value} {x : DataW H × List MemPlace} {base : Nat} {held : Bool} (ht : P.underlying t = some (.slice e)) (he : P.underlying e = some (.int .i64)) (hc : P.cellsOf e = 1)
    (h : DataW.trod enc P w base (fun _ => true) held fuel t [v] = some x) : ∃ A c u, v = .slice A u.length c ∧ u.length ≤ c ∧ c ≤ maxLen ∧ Ris w w.heap.size A u ∧ WfI u := by
  rcases open_ints ht he hc h with ⟨h1, _⟩ | ⟨a, len, cap, zs, h1, _, hl, hm, hz, _, hcell, hwf⟩
  · injection h1 with h1
    exact ⟨none, 0, [], h1, by simp, by unfold maxLen; omega, .inl rfl, fun i hi => by simp at hi⟩
  · injection h1 with h1
    simp only [if_true] at hz
    have hlen : (zs.take len).length = len := by rw [List.length_take]; omega
    have hget : ∀ i, i < len → gI (zs.take len) i = zs.getD i 0 := fun i hi => by simp [gI, hi]
    refine ⟨some a, cap, zs.take len, by rw [hlen]; exact h1, by rw [hlen]; exact hl, hm, ?_, ?_⟩
    · by_cases h0 : len = 0
      · subst h0; exact .inl (by simp [ints])
      · obtain ⟨ab, ao, asp⟩ := a
        have h00 := hcell 0 (by omega)
        have hs := spot_none h00
        subst hs
        refine .inr ⟨ab, ao, rfl, ?_, ?_⟩
        · have := blk_lt h00
          simpa [Addr.add] using this
        · intro i v hv
          have hil : i < len := by
            have := (List.getElem?_eq_some_iff.1 hv).1
            rwa [ints_len, hlen] at this
          have hci := hcell i (by omega)
          rw [add_lit'] at hci
          rw [hci]
          have : (ints (zs.take len))[i]? = some (.int .i64 (zs.getD i 0)) := by
            have hz' : i < zs.length := by omega
            simp [ints, hil, hz']
          rw [this] at hv
          exact hv
    · intro i hi
      rw [hlen] at hi
      rw [hget i hi]
      have hz' : i < zs.length := by omega
      have := hwf zs[i] (List.getElem_mem hz')
      have e : zs.getD i 0 = zs[i] := by simp [hz']
      rw [e]
      exact wf_in this
theorem open_nodesc {t e : TypeId} {f0 f1 : Field} {v : Value} {fuel : Nat} {x : DataW H × List MemPlace} {base : Nat} {held : Bool}
    (ht : P.underlying t = some (.slice e)) (he : P.underlying e = some (.struct #[f0, f1])) (ce : P.cellsOf e = 2) (o0 : f0.offset = 0) (o1 : f1.offset = 1)
    (c0 : P.cellsOf f0.type = 1) (c1 : P.cellsOf f1.type = 1) (u0 : P.underlying f0.type = some (.int .i64)) (u1 : P.underlying f1.type = some (.int .i64))
    (h : DataW.trod enc P w base (fun _ => true) held fuel t [v] = some x) :
    ∃ A c l, v = .slice A l.length c ∧ l.length ≤ c ∧ c ≤ maxLen ∧ Nds w w.heap.size A l ∧ WfN l := by
  have hv : ∃ A n c, v = .slice A n c := by
    rcases Go.Deep.open_slice_pairs ht he ce o0 o1 c0 c1 h with ⟨hc, _⟩ | ⟨a, len', cap', m, n, V0, V1, D0, D1, P0, P1, hc, _⟩
    · injection hc with hc; exact ⟨_, _, _, hc⟩
    · injection hc with hc; exact ⟨_, _, _, hc⟩
  obtain ⟨A, len, cap, rfl⟩ := hv
  rcases Go.Deep.open_slice_pairs ht he ce o0 o1 c0 c1 h with ⟨hc, _⟩ | ⟨a, len', cap', m, n, V0, V1, D0, D1, P0, P1, hc, hb, hl, hm, hmm, hx, hi⟩
  · simp at hc
    obtain ⟨rfl, rfl, rfl⟩ := hc
    exact ⟨none, 0, [], rfl, by simp, by unfold maxLen; omega, .inl rfl, fun i hi => by simp at hi⟩
  · simp at hc
    obtain ⟨rfl, rfl, rfl⟩ := hc
    have hm2 : m = cap := by rw [hmm]; simp
    subst hm2
    have key : ∀ i, i < m → ∃ x y : Int, V0 i = .int .i64 x ∧ V1 i = .int .i64 y ∧ inI x ∧ inI y := by
      intro i him
      obtain ⟨h0, h1, h2, h3⟩ := hi i him
      obtain ⟨x, hx, _, wx⟩ := DataW.trod_int u0 h2
      obtain ⟨y, hy, _, wy⟩ := DataW.trod_int u1 h3
      simp at hx hy
      exact ⟨x, y, hx, hy, wf_in wx, wf_in wy⟩
    obtain ⟨fx, hfx⟩ := Go.Deep.choose_lt (n := m) (p := fun i (q : Int × Int) => V0 i = .int .i64 q.1 ∧ V1 i = .int .i64 q.2 ∧ inI q.1 ∧ inI q.2)
      (fun i him => by obtain ⟨x, y, k⟩ := key i him; exact ⟨(x, y), k⟩)
    have hlen : ((List.range len).map fx).length = len := by simp
    refine ⟨some a, m, (List.range len).map fx, by rw [hlen], by rw [hlen]; exact hl, hm, ?_, ?_⟩
    · by_cases h0 : len = 0
      · subst h0; exact .inl (by simp [nds])
      · obtain ⟨ab, ao, asp⟩ := a
        have hs : asp = none := by
          have := (hi 0 (by omega)).1
          rw [Nat.zero_mul] at this
          exact spot_none this
        subst hs
        refine .inr ⟨ab, ao, rfl, ?_, ?_⟩
        · have := blk_lt (hi 0 (by omega)).1
          simpa [Addr.add] using this
        · intro i v hv
          have hil : i < len * 2 := by
            have := (List.getElem?_eq_some_iff.1 hv).1
            rwa [nds_len, hlen] at this
          have hg := nds_get ((List.range len).map fx) (i / 2) (by rw [hlen]; omega)
          obtain ⟨q0, q1, q2, q3⟩ := hi (i / 2) (by omega)
          obtain ⟨r0, r1, _⟩ := hfx (i / 2) (by omega)
          have hP : nP ((List.range len).map fx) (i / 2) = (fx (i / 2)).1 := by simp [nP, show i / 2 < len by omega]
          have hC : nC ((List.range len).map fx) (i / 2) = (fx (i / 2)).2 := by simp [nC, show i / 2 < len by omega]
          rw [hP, hC] at hg
          rw [r0] at q0
          rw [r1] at q1
          rw [add_lit'] at q0 q1
          by_cases hodd : i % 2 = 0
          · have e : i / 2 * 2 = i := by omega
            rw [e] at hg q0
            rw [hg.1] at hv
            injection hv with hv
            rw [q0, hv]
          · have e : i / 2 * 2 + 1 = i := by omega
            rw [e] at hg
            rw [e] at q1
            rw [hg.2] at hv
            injection hv with hv
            rw [q1, hv]
    · intro i hil
      rw [hlen] at hil
      obtain ⟨_, _, r2, r3⟩ := hfx i (by omega)
      have hP : nP ((List.range len).map fx) i = (fx i).1 := by simp [nP, hil]
      have hC : nC ((List.range len).map fx) i = (fx i).2 := by simp [nC, hil]
      rw [hP, hC]
      exact ⟨r2, r3⟩
end
end Go.Proofs.Ytkmkaidhpbjbnaa.Opn

/- The contracts of package fixed and of its reference: each call answers the number where it fits 64 bits, else nothing. No condition but that each argument is a number of 64 bits. -/
namespace Go.Proofs.Ytkmkaidhpbjbnaa.Fix
set_option maxRecDepth 100000
open Go.ChangeShapes Go.WideShapes Go.ChangeAt Go.RowKit

/-- fits 64 bits -/
def inB (x : Int) : Bool := decide (-9223372036854775808 ≤ x ∧ x ≤ 9223372036854775807)
def numV (x : Int) : Int := if inB x then x else 0

theorem inB_t {x : Int} (h : -9223372036854775808 ≤ x) (h' : x ≤ 9223372036854775807) : inB x = true := by
  unfold inB; simp [h, h']
theorem inB_f {x : Int} (h : x < -9223372036854775808 ∨ 9223372036854775807 < x) : inB x = false := by
  unfold inB; simp; omega
theorem inB_of {x : Int} (h : inB x = true) : -9223372036854775808 ≤ x ∧ x ≤ 9223372036854775807 := by
  unfold inB at h; simpa using h
theorem numV_t {x : Int} (h : inB x = true) : numV x = x := by unfold numV; simp [h]
theorem numV_f {x : Int} (h : inB x = false) : numV x = 0 := by unfold numV; simp [h]
def Told (x : Int) (w : Go.World) (e : Ending) (w' : Go.World) : Prop := e = .returned (.tuple #[.int .i64 (numV x), .bool (inB x)]) ∧ w = w'
def ToldB (b : Bool) (w : Go.World) (e : Ending) (w' : Go.World) : Prop := e = .returned (.bool b) ∧ w = w'

theorem told_t {x : Int} {w : Go.World} {y : Int} (h : -9223372036854775808 ≤ x) (h' : x ≤ 9223372036854775807) (hy : y = x) : Told x w (.returned (.tuple #[.int .i64 y, .bool true])) w := by
  have := inB_t h h'
  subst hy
  exact ⟨by rw [numV_t this, this], rfl⟩
theorem told_f {x : Int} {w : Go.World} (h : x < -9223372036854775808 ∨ 9223372036854775807 < x) : Told x w (.returned (.tuple #[.int .i64 0, .bool false])) w := by
  have := inB_f h
  exact ⟨by rw [numV_f this, this], rfl⟩

theorem told_no {x : Int} {w : Go.World} (h : inB x = false) : Told x w (.returned (.tuple #[.int .i64 0, .bool false])) w :=
  ⟨by rw [numV_f h, h], rfl⟩

theorem add_any (a b : Int) (w : Go.World) (ha : -9223372036854775808 ≤ a) (ha' : a ≤ 9223372036854775807) (hb : -9223372036854775808 ≤ b) (hb' : b ≤ 9223372036854775807) :
    Calls Try.prog 78 #[.int .i64 a, .int .i64 b] w (Told (a + b) w) := by
  by_cases h1 : 0 < b
  · by_cases h2 : 9223372036854775807 - b < a
    · go_enter Try.func78, Try.ntmps78
      go_wp2
      go_ret2
      exact told_f (by omega)
    · go_enter Try.func78, Try.ntmps78
      go_wp2
      go_ret2
      exact told_t (by omega) (by omega) rfl
  · by_cases h3 : b < 0
    · by_cases h2 : a < -9223372036854775808 - b
      · go_enter Try.func78, Try.ntmps78
        go_wp2
        go_ret2
        exact told_f (by omega)
      · go_enter Try.func78, Try.ntmps78
        go_wp2
        go_ret2
        exact told_t (by omega) (by omega) rfl
    · obtain rfl : b = 0 := by omega
      go_enter Try.func78, Try.ntmps78
      go_wp2
      go_ret2
      exact told_t (by omega) (by omega) (by omega)

theorem wr64 {x : Int} (h : -9223372036854775808 ≤ x) (h' : x ≤ 9223372036854775807) : wrap64 x = x := by
  unfold wrap64; omega
theorem toldB_mk {p : Prop} [Decidable p] {b : Bool} {w : Go.World} (h : p ↔ b = true) : ToldB b w (.returned (.bool (decide p))) w :=
  ⟨by congr 2; rw [Bool.eq_iff_iff]; simpa using h, rfl⟩
theorem inB_iff {x : Int} : inB x = true ↔ (-9223372036854775808 ≤ x ∧ x ≤ 9223372036854775807) := by unfold inB; simp
theorem le_quo {p q n : Int} (hp : 0 < p) : q ≤ n / p ↔ p * q ≤ n := by
  rw [Int.le_ediv_iff_mul_le hp, Int.mul_comm]
theorem quo_bd {p n : Int} (hp : 0 < p) (hn : 0 ≤ n) : 0 ≤ n / p ∧ n / p ≤ n :=
  ⟨Int.ediv_nonneg hn (by omega), Int.ediv_le_self _ hn⟩
theorem tdiv_pos {p n : Int} (hn : 0 ≤ n) : Int.tdiv n p = n / p := Int.tdiv_eq_ediv_of_nonneg hn
theorem tdiv_neg {p n : Int} (hn : 0 ≤ n) : Int.tdiv n p = -(n / (-p)) := by
  rw [← Int.neg_neg p, Int.tdiv_neg, tdiv_pos hn, Int.neg_neg]

theorem fits_pp (a b : Int) (w : Go.World) (ha : 0 < a) (ha' : a ≤ 9223372036854775807) (hb : 0 < b) (hb' : b ≤ 9223372036854775807) :
    Calls Try.prog 92 #[.int .i64 a, .int .i64 b] w (ToldB (inB (a * b)) w) := by
  have h1 : (a == 0) = false := by simp; omega
  have h2 : (b == 0) = false := by simp; omega
  go_enter Try.func92, Try.ntmps92
  go_wp2
  go_ret
  refine toldB_mk ?_
  have := Int.mul_pos ha hb
  rw [inB_iff, le_quo hb, Int.mul_comm]
  omega
theorem fits_pn (a b : Int) (w : Go.World) (ha : 0 < a) (ha' : a ≤ 9223372036854775807) (hb : b < 0) (hb' : -9223372036854775808 ≤ b) :
    Calls Try.prog 92 #[.int .i64 a, .int .i64 b] w (ToldB (inB (a * b)) w) := by
  have h1 : (a == 0) = false := by simp; omega
  have h2 : (b == 0) = false := by simp; omega
  go_enter Try.func92, Try.ntmps92
  go_wp2
  go_ret
  refine toldB_mk ?_
  have hq := quo_bd ha (show (0 : Int) ≤ 9223372036854775808 by omega)
  have hl := le_quo (q := -b) (n := 9223372036854775808) ha
  have hm := Int.mul_pos ha (show 0 < -b by omega)
  rw [Int.mul_neg] at hl hm
  rw [tdiv_pos (by omega), wr64 (by omega) (by omega), inB_iff]
  omega
theorem fits_np (a b : Int) (w : Go.World) (ha : a < 0) (ha' : -9223372036854775808 ≤ a) (hb : 0 < b) (hb' : b ≤ 9223372036854775807) :
    Calls Try.prog 92 #[.int .i64 a, .int .i64 b] w (ToldB (inB (a * b)) w) := by
  have h1 : (a == 0) = false := by simp; omega
  have h2 : (b == 0) = false := by simp; omega
  go_enter Try.func92, Try.ntmps92
  go_wp2
  go_ret
  refine toldB_mk ?_
  have hq := quo_bd hb (show (0 : Int) ≤ 9223372036854775808 by omega)
  have hl := le_quo (q := -a) (n := 9223372036854775808) hb
  have hm := Int.mul_pos hb (show 0 < -a by omega)
  rw [Int.mul_neg, Int.mul_comm b a] at hl hm
  rw [tdiv_pos (by omega), wr64 (by omega) (by omega), inB_iff]
  omega
theorem fits_nn (a b : Int) (w : Go.World) (ha : a < 0) (ha' : -9223372036854775808 ≤ a) (hb : b < 0) (hb' : -9223372036854775808 ≤ b) :
    Calls Try.prog 92 #[.int .i64 a, .int .i64 b] w (ToldB (inB (a * b)) w) := by
  have h1 : (a == 0) = false := by simp; omega
  have h2 : (b == 0) = false := by simp; omega
  go_enter Try.func92, Try.ntmps92
  go_wp2
  go_ret
  refine toldB_mk ?_
  have hq := quo_bd (show 0 < -b by omega) (show (0 : Int) ≤ 9223372036854775807 by omega)
  have hl := le_quo (q := -a) (n := 9223372036854775807) (show 0 < -b by omega)
  have hm := Int.mul_pos (show 0 < -b by omega) (show 0 < -a by omega)
  rw [Int.neg_mul_neg, Int.mul_comm b a] at hl hm
  rw [tdiv_neg (by omega), wr64 (by omega) (by omega), inB_iff]
  omega
theorem fits_z1 (b : Int) (w : Go.World) :
    Calls Try.prog 92 #[.int .i64 0, .int .i64 b] w (ToldB (inB (0 * b)) w) := by
  go_enter Try.func92, Try.ntmps92
  go_wp2
  go_ret
  exact ⟨by rw [Int.zero_mul]; rfl, rfl⟩
theorem fits_z2 (a : Int) (w : Go.World) (h1 : (a == 0) = false) :
    Calls Try.prog 92 #[.int .i64 a, .int .i64 0] w (ToldB (inB (a * 0)) w) := by
  go_enter Try.func92, Try.ntmps92
  go_wp2
  go_ret
  exact ⟨by rw [Int.mul_zero]; rfl, rfl⟩
theorem fits_any (a b : Int) (w : Go.World) (ha : -9223372036854775808 ≤ a) (ha' : a ≤ 9223372036854775807) (hb : -9223372036854775808 ≤ b) (hb' : b ≤ 9223372036854775807) :
    Calls Try.prog 92 #[.int .i64 a, .int .i64 b] w (ToldB (inB (a * b)) w) := by
  by_cases h : a = 0
  · subst h; exact fits_z1 b w
  by_cases h' : b = 0
  · subst h'; exact fits_z2 a w (by simpa using h)
  by_cases h1 : 0 < a
  · by_cases h2 : 0 < b
    · exact fits_pp a b w h1 ha' h2 hb'
    · exact fits_pn a b w h1 ha' (by omega) hb
  · by_cases h2 : 0 < b
    · exact fits_np a b w (by omega) ha h2 hb'
    · exact fits_nn a b w (by omega) ha (by omega) hb

theorem mul_any (a b : Int) (w : Go.World) (ha : -9223372036854775808 ≤ a) (ha' : a ≤ 9223372036854775807) (hb : -9223372036854775808 ≤ b) (hb' : b ≤ 9223372036854775807) :
    Calls Try.prog 84 #[.int .i64 a, .int .i64 b] w (Told (a * b) w) := by
  by_cases h : inB (a * b) = true
  · obtain ⟨h1, h2⟩ := inB_of h
    go_enter Try.func84, Try.ntmps84
    go_wp2_with (go_at_call 92; refine (fits_any a b _ ha ha' hb hb').mono ?_; rintro e w' ⟨rfl, rfl⟩)
    go_ret2
    exact told_t h1 h2 rfl
  · have h : inB (a * b) = false := by simpa using h
    go_enter Try.func84, Try.ntmps84
    go_wp2_with (go_at_call 92; refine (fits_any a b _ ha ha' hb hb').mono ?_; rintro e w' ⟨rfl, rfl⟩)
    go_ret2
    exact told_no h

/-- what so many at a price are worth -/
def noB (a b : Int) : Bool := decide (0 ≤ a) && decide (0 ≤ b) && inB (a * b)
def noV (a b : Int) : Int := if noB a b then a * b else 0
def ToldN (a b : Int) (w : Go.World) (e : Ending) (w' : Go.World) : Prop := e = .returned (.tuple #[.int .i64 (noV a b), .bool (noB a b)]) ∧ w = w'
theorem noB_in {a b : Int} (h : 0 ≤ a) (h' : 0 ≤ b) : noB a b = inB (a * b) := by unfold noB; simp [h, h']
theorem noV_in {a b : Int} (h : 0 ≤ a) (h' : 0 ≤ b) : noV a b = numV (a * b) := by unfold noV numV; rw [noB_in h h']
theorem toldN_f {a b : Int} {w : Go.World} (h : a < 0 ∨ b < 0) : ToldN a b w (.returned (.tuple #[.int .i64 0, .bool false])) w := by
  have : noB a b = false := by unfold noB; rcases h with h | h <;> simp <;> omega
  exact ⟨by unfold noV; rw [this]; rfl, rfl⟩
theorem toldN_in {a b : Int} {w : Go.World} (h : 0 ≤ a) (h' : 0 ≤ b) : ToldN a b w (.returned (.tuple #[.int .i64 (numV (a * b)), .bool (inB (a * b))])) w :=
  ⟨by rw [noV_in h h', noB_in h h'], rfl⟩
theorem not_any (a b : Int) (w : Go.World) (ha : -9223372036854775808 ≤ a) (ha' : a ≤ 9223372036854775807) (hb : -9223372036854775808 ≤ b) (hb' : b ≤ 9223372036854775807) :
    Calls Try.prog 72 #[.int .i64 a, .int .i64 b] w (ToldN a b w) := by
  by_cases h1 : a < 0
  · go_enter Try.func72, Try.ntmps72
    go_wp2
    go_ret2
    exact toldN_f (Or.inl h1)
  · by_cases h2 : b < 0
    · go_enter Try.func72, Try.ntmps72
      go_wp2
      go_ret2
      exact toldN_f (Or.inr h2)
    · go_enter Try.func72, Try.ntmps72
      go_wp2_with (first | (go_at_call 84; refine (mul_any _ _ _ ha ha' hb hb').mono ?_; rintro e w' ⟨rfl, rfl⟩))
      go_ret2
      exact toldN_in (by omega) (by omega)
end Go.Proofs.Ytkmkaidhpbjbnaa.Fix

/- Words for lists of symbols in memory, over any program; what is wrong with a Config, as a plain function. No condition. -/
namespace Go.Proofs.Ytkmkaidhpbjbnaa.Cfg
set_option maxRecDepth 100000
open Go.ChangeShapes Go.WideShapes Go.RowKit Mem Tre Ref3 Law3 Fix3 Opn Bnd Flo
set_option linter.unusedVariables false

theorem run_store_float {P : Program} {w : World} {a : Addr} {m : Mode} (k : FloatKind) (n : Nat) : (store a (.float k n) m).run P w = stored P w a (.float k n) m := run_store P w a _ m rfl
/-! ### symbols -/
def sP (l : List (Int × Int × Int × Nat)) (i : Nat) : Int := (l.getD i (0, 0, 0, 0)).1
def sQ (l : List (Int × Int × Int × Nat)) (i : Nat) : Int := (l.getD i (0, 0, 0, 0)).2.1
def sW (l : List (Int × Int × Int × Nat)) (i : Nat) : Int := (l.getD i (0, 0, 0, 0)).2.2.1
def sB (l : List (Int × Int × Int × Nat)) (i : Nat) : Nat := (l.getD i (0, 0, 0, 0)).2.2.2
def syV (p : Int × Int × Int × Nat) : List Value := [.int .i64 p.1, .int .i64 p.2.1, .int .i64 p.2.2.1, .float .f64 p.2.2.2]
def btV (p : Int × Int × Int × Nat) : List Value := [.int .i64 p.1, .int .i64 p.2.1, .int .i64 p.2.2.1, .int .u64 (p.2.2.2 : Int)]
def smbs (l : List (Int × Int × Int × Nat)) : List Value := l.flatMap syV
def btbs (l : List (Int × Int × Int × Nat)) : List Value := l.flatMap btV
theorem smbs_len (l : List (Int × Int × Int × Nat)) : (smbs l).length = l.length * 4 := by
  induction l with
  | nil => rfl
  | cons p l ih => simp [smbs, syV] at ih ⊢; omega
theorem btbs_len (l : List (Int × Int × Int × Nat)) : (btbs l).length = l.length * 4 := by
  induction l with
  | nil => rfl
  | cons p l ih => simp [btbs, btV] at ih ⊢; omega
theorem smbs_get (l : List (Int × Int × Int × Nat)) (i : Nat) (hi : i < l.length) :
    (smbs l)[i * 4]? = some (.int .i64 (sP l i)) ∧ (smbs l)[i * 4 + 1]? = some (.int .i64 (sQ l i)) ∧ (smbs l)[i * 4 + 2]? = some (.int .i64 (sW l i)) ∧ (smbs l)[i * 4 + 3]? = some (.float .f64 (sB l i)) := by
  induction l generalizing i with
  | nil => simp at hi
  | cons p l ih =>
    cases i with
    | zero => simp [smbs, syV, sP, sQ, sW, sB]
    | succ i =>
      have := ih i (by simpa using hi)
      rw [show (i + 1) * 4 = i * 4 + 4 by omega, show i * 4 + 4 + 1 = (i * 4 + 1) + 4 by omega, show i * 4 + 4 + 2 = (i * 4 + 2) + 4 by omega, show i * 4 + 4 + 3 = (i * 4 + 3) + 4 by omega]
      simpa [smbs, syV, sP, sQ, sW, sB] using this
theorem btbs_get (l : List (Int × Int × Int × Nat)) (i : Nat) (hi : i < l.length) :
    (btbs l)[i * 4]? = some (.int .i64 (sP l i)) ∧ (btbs l)[i * 4 + 1]? = some (.int .i64 (sQ l i)) ∧ (btbs l)[i * 4 + 2]? = some (.int .i64 (sW l i)) ∧ (btbs l)[i * 4 + 3]? = some (.int .u64 (sB l i : Int)) := by
  induction l generalizing i with
  | nil => simp at hi
  | cons p l ih =>
    cases i with
    | zero => simp [btbs, btV, sP, sQ, sW, sB]
    | succ i =>
      have := ih i (by simpa using hi)
      rw [show (i + 1) * 4 = i * 4 + 4 by omega, show i * 4 + 4 + 1 = (i * 4 + 1) + 4 by omega, show i * 4 + 4 + 2 = (i * 4 + 2) + 4 by omega, show i * 4 + 4 + 3 = (i * 4 + 3) + 4 by omega]
      simpa [btbs, btV, sP, sQ, sW, sB] using this
def Smb (w : World) (B : Nat) (A : Option Addr) (l : List (Int × Int × Int × Nat)) : Prop := Rd w B A (smbs l)
def Btb (w : World) (B : Nat) (A : Option Addr) (l : List (Int × Int × Int × Nat)) : Prop := Rd w B A (btbs l)
theorem Smb.at {w : World} {B : Nat} {A : Option Addr} {l : List (Int × Int × Int × Nat)} (h : Smb w B A l) {i : Nat} (hi : i < l.length) :
    ∃ b o, A = some ⟨b, o, none⟩ ∧ b < B ∧ ∀ j, j < l.length → w.cell? ⟨b, o + j * 4, none⟩ = some (.int .i64 (sP l j)) ∧ w.cell? ⟨b, o + j * 4 + 1, none⟩ = some (.int .i64 (sQ l j)) ∧ w.cell? ⟨b, o + j * 4 + 2, none⟩ = some (.int .i64 (sW l j)) ∧ w.cell? ⟨b, o + j * 4 + 3, none⟩ = some (.float .f64 (sB l j)) := by
  obtain ⟨b, o, hA, hb, hc⟩ := Rd.at h (by intro e; have := smbs_len l; rw [e] at this; simp at this; omega)
  refine ⟨b, o, hA, hb, fun j hj => ?_⟩
  obtain ⟨g0, g1, g2, g3⟩ := smbs_get l j hj
  exact ⟨hc _ _ g0, by rw [Nat.add_assoc]; exact hc _ _ g1, by rw [Nat.add_assoc]; exact hc _ _ g2, by rw [Nat.add_assoc]; exact hc _ _ g3⟩
theorem Btb.at {w : World} {B : Nat} {A : Option Addr} {l : List (Int × Int × Int × Nat)} (h : Btb w B A l) {i : Nat} (hi : i < l.length) :
    ∃ b o, A = some ⟨b, o, none⟩ ∧ b < B ∧ ∀ j, j < l.length → w.cell? ⟨b, o + j * 4, none⟩ = some (.int .i64 (sP l j)) ∧ w.cell? ⟨b, o + j * 4 + 1, none⟩ = some (.int .i64 (sQ l j)) ∧ w.cell? ⟨b, o + j * 4 + 2, none⟩ = some (.int .i64 (sW l j)) ∧ w.cell? ⟨b, o + j * 4 + 3, none⟩ = some (.int .u64 (sB l j : Int)) := by
  obtain ⟨b, o, hA, hb, hc⟩ := Rd.at h (by intro e; have := btbs_len l; rw [e] at this; simp at this; omega)
  refine ⟨b, o, hA, hb, fun j hj => ?_⟩
  obtain ⟨g0, g1, g2, g3⟩ := btbs_get l j hj
  exact ⟨hc _ _ g0, by rw [Nat.add_assoc]; exact hc _ _ g1, by rw [Nat.add_assoc]; exact hc _ _ g2, by rw [Nat.add_assoc]; exact hc _ _ g3⟩
def WfS (l : List (Int × Int × Int × Nat)) : Prop := ∀ i, i < l.length → inI (sP l i) ∧ inI (sQ l i) ∧ inI (sW l i) ∧ sB l i < 18446744073709551616
theorem smbs_snoc (l : List (Int × Int × Int × Nat)) (p : Int × Int × Int × Nat) : smbs (l ++ [p]) = smbs l ++ [.int .i64 p.1, .int .i64 p.2.1, .int .i64 p.2.2.1, .float .f64 p.2.2.2] := by simp [smbs, syV]
theorem takeS_snoc {l : List (Int × Int × Int × Nat)} {k : Nat} (h : k < l.length) : l.take (k + 1) = l.take k ++ [(sP l k, sQ l k, sW l k, sB l k)] := by
  have e : l[k] = (sP l k, sQ l k, sW l k, sB l k) := by simp [sP, sQ, sW, sB, h]
  rw [List.take_succ_eq_append_getElem h, e]

/-! ### what is wrong -/
def btwB (a n b : Int) : Bool := decide (a ≤ n) && decide (n ≤ b)
def symB (p q wo : Int) (b : Nat) : Bool := btwB 1 p 1099511627776 && btwB 1 q 1099511627776 && decide (0 ≤ wo) && rightB b
def sizB (sh wi ra ta : Int) : Bool := btwB 1 sh 4 && btwB 0 wi 16 && btwB 1 ra 1000 && btwB 1 ta 64
def accB (n : Nat) (ac : List Int) : Bool := decide (∀ i, i < ac.length → inR n (gI ac i) = true)
def tabB (sy : List (Int × Int × Int × Nat)) : Bool := decide (∀ i, i < sy.length → symB (sP sy i) (sQ sy i) (sW sy i) (sB sy i) = true)
def cfgF (sh wi ra ta : Int) (nd : List (Int × Int)) (ac : List Int) (sy : List (Int × Int × Int × Nat)) : Int :=
  if sizB sh wi ra ta = false then 1
  else if ¬ (chk nd).1 = 0 then (chk nd).1
  else if ac.length = 0 ∨ 32 < ac.length then 3
  else if accB nd.length ac = false then 18
  else if sy.length = 0 ∨ 16 < sy.length then 4
  else if tabB sy = false then 1 else 0
theorem btw_t {a n b : Int} (h : a ≤ n) (h' : n ≤ b) : btwB a n b = true := by simp [btwB, h, h']
theorem btw_l {a n b : Int} (h : n < a) : btwB a n b = false := by simp [btwB]; omega
theorem btw_g {a n b : Int} (h : b < n) : btwB a n b = false := by simp [btwB]; omega
theorem accB_f {n : Nat} {ac : List Int} {i : Nat} (h : i < ac.length) (h' : inR n (gI ac i) = false) : accB n ac = false := by
  unfold accB
  simp only [decide_eq_false_iff_not]
  intro e
  rw [e i h] at h'
  exact absurd h' (by decide)
theorem accB_t {n : Nat} {ac : List Int} (h : ∀ i, i < ac.length → inR n (gI ac i) = true) : accB n ac = true := by
  unfold accB; simpa using h
theorem tabB_f {sy : List (Int × Int × Int × Nat)} {i : Nat} (h : i < sy.length) (h' : symB (sP sy i) (sQ sy i) (sW sy i) (sB sy i) = false) : tabB sy = false := by
  unfold tabB
  simp only [decide_eq_false_iff_not]
  intro e
  rw [e i h] at h'
  exact absurd h' (by decide)
theorem tabB_t {sy : List (Int × Int × Int × Nat)} (h : ∀ i, i < sy.length → symB (sP sy i) (sQ sy i) (sW sy i) (sB sy i) = true) : tabB sy = true := by
  unfold tabB; simpa using h
section
variable {sh wi ra ta : Int} {nd : List (Int × Int)} {ac : List Int} {sy : List (Int × Int × Int × Nat)}
theorem cfgF_1 (h : sizB sh wi ra ta = false) : cfgF sh wi ra ta nd ac sy = 1 := by unfold cfgF; rw [if_pos h]
theorem cfgF_2 (h : sizB sh wi ra ta = true) (h2 : ¬ (chk nd).1 = 0) : cfgF sh wi ra ta nd ac sy = (chk nd).1 := by
  unfold cfgF; rw [if_neg (by rw [h]; decide), if_pos h2]
theorem cfgF_3 (h : sizB sh wi ra ta = true) (h2 : (chk nd).1 = 0) (h3 : ac.length = 0 ∨ 32 < ac.length) : cfgF sh wi ra ta nd ac sy = 3 := by
  unfold cfgF; rw [if_neg (by rw [h]; decide), if_neg (by simp [h2]), if_pos h3]
theorem cfgF_4 (h : sizB sh wi ra ta = true) (h2 : (chk nd).1 = 0) (h3 : ¬ (ac.length = 0 ∨ 32 < ac.length)) (h4 : accB nd.length ac = false) : cfgF sh wi ra ta nd ac sy = 18 := by
  unfold cfgF; rw [if_neg (by rw [h]; decide), if_neg (by simp [h2]), if_neg h3, if_pos h4]
theorem cfgF_5 (h : sizB sh wi ra ta = true) (h2 : (chk nd).1 = 0) (h3 : ¬ (ac.length = 0 ∨ 32 < ac.length)) (h4 : accB nd.length ac = true) (h5 : sy.length = 0 ∨ 16 < sy.length) : cfgF sh wi ra ta nd ac sy = 4 := by
  unfold cfgF; rw [if_neg (by rw [h]; decide), if_neg (by simp [h2]), if_neg h3, if_neg (by rw [h4]; decide), if_pos h5]
theorem cfgF_6 (h : sizB sh wi ra ta = true) (h2 : (chk nd).1 = 0) (h3 : ¬ (ac.length = 0 ∨ 32 < ac.length)) (h4 : accB nd.length ac = true) (h5 : ¬ (sy.length = 0 ∨ 16 < sy.length)) (h6 : tabB sy = false) : cfgF sh wi ra ta nd ac sy = 1 := by
  unfold cfgF; rw [if_neg (by rw [h]; decide), if_neg (by simp [h2]), if_neg h3, if_neg (by rw [h4]; decide), if_neg h5, if_pos h6]
theorem cfgF_7 (h : sizB sh wi ra ta = true) (h2 : (chk nd).1 = 0) (h3 : ¬ (ac.length = 0 ∨ 32 < ac.length)) (h4 : accB nd.length ac = true) (h5 : ¬ (sy.length = 0 ∨ 16 < sy.length)) (h6 : tabB sy = true) : cfgF sh wi ra ta nd ac sy = 0 := by
  unfold cfgF; rw [if_neg (by rw [h]; decide), if_neg (by simp [h2]), if_neg h3, if_neg (by rw [h4]; decide), if_neg h5, if_neg (by rw [h6]; decide)]
end

/-! ### an order -/
/-- what is wrong with an order by the rules alone, and what it is worth -/
def lokF (ac : List Int) (sy : List (Int × Int × Int × Nat)) (a s p q n t : Int) : Int × Int :=
  if p < 1 ∨ q < 1 ∨ n < 0 ∨ t < 0 then (1, 0)
  else if inR ac.length a = false then (3, 0)
  else if inR sy.length s = false then (4, 0)
  else if sQ sy s.toNat < q then (5, 0)
  else if ¬ Fix.inB (p * q) = true then (6, 0)
  else if sW sy s.toNat < p * q then (7, 0)
  else if witB (sP sy s.toNat) p (sB sy s.toNat) = false then (8, 0)
  else (0, p * q)
/-- whose an account is -/
def shaF (sh : Int) (n : Nat) (a : Int) : Int := if sh < 1 ∨ inR n a = false then -1 else a % sh
end Go.Proofs.Ytkmkaidhpbjbnaa.Cfg

/- A Model in memory: its struct, the row of its books, and all that they read; what is written keeps it. Over the program's types alone, no condition. -/
namespace Go.Proofs.Ytkmkaidhpbjbnaa.Mdp
set_option maxRecDepth 100000
open Go.ChangeShapes Go.WideShapes Go.ChangeAt Go.RowKit Mem Tre Ref3 Law3 Fix3 Cfg Crd CrdB CrdC Rr4 Bkp Bks Bcl Dlk Stk Apt Bko Bku Bka Bkc
set_option linter.unusedVariables false
set_option linter.unusedSimpArgs false
/-- a book, and where it lies -/
structure Bx where
  A : Option Addr
  C : Option Addr
  c : Nat
  d : Nat
  rl : List Rc
  b : Bk
def bx0 : Bx := ⟨none, none, 0, 0, [], ⟨0, 0, [], []⟩⟩
def gX (l : List Bx) (i : Nat) : Bx := l.getD i bx0
def bxV (x : Bx) : List Value := [.int .i64 x.b.sh, .int .i64 x.b.ca, .slice x.A x.b.rows.length x.c, .slice x.C x.b.op.length x.d]
def bxs (l : List Bx) : List Value := l.flatMap bxV
theorem bxs_snoc (l : List Bx) (x : Bx) : bxs (l ++ [x]) = bxs l ++ bxV x := by simp [bxs]
theorem bxs_get (l : List Bx) (i j : Nat) (hi : i < l.length) (hj : j < 4) : (bxs l)[i * 4 + j]? = (bxV (gX l i))[j]? := by
  induction l generalizing i with
  | nil => simp at hi
  | cons m l ih =>
    cases i with
    | zero =>
      show (bxV m ++ bxs l)[0 * 4 + j]? = (bxV m)[j]?
      rw [List.getElem?_append_left (by simp [bxV]; omega)]
      simp
    | succ i =>
      have h := ih i (by simpa using hi)
      show (bxV m ++ bxs l)[(i + 1) * 4 + j]? = (bxV (gX l i))[j]?
      rw [List.getElem?_append_right (by simp [bxV]; omega), ← h]
      congr 1
      simp [bxV]
      omega
theorem bxs_set (l : List Bx) (i : Nat) (x : Bx) (hi : i < l.length) : bxs (l.set i x) = ((((bxs l).set (i * 4) (.int .i64 x.b.sh)).set (i * 4 + 1) (.int .i64 x.b.ca)).set (i * 4 + 2) (.slice x.A x.b.rows.length x.c)).set (i * 4 + 3) (.slice x.C x.b.op.length x.d) := by
  induction l generalizing i with
  | nil => simp at hi
  | cons m l ih =>
    cases i with
    | zero => simp [bxs, bxV]
    | succ i =>
      have h := ih i (by simpa using hi)
      have e : ∀ l', bxs (m :: l') = bxV m ++ bxs l' := fun _ => rfl
      have e1 : (i + 1) * 4 = i * 4 + 1 + 1 + 1 + 1 := by omega
      simp only [List.set_cons_succ]
      rw [e, e, h, e1]
      simp [bxV]
theorem gX_set (l : List Bx) (i k : Nat) (x : Bx) (hi : i < l.length) : gX (l.set i x) k = if k = i then x else gX l k := by
  unfold gX
  by_cases h : k = i
  · subst h; simp [hi]
  · rw [if_neg h]
    simp [List.getD, List.getElem?_set, show ¬ i = k from fun e => h e.symm]
theorem gX_snoc (l : List Bx) (k : Nat) (x : Bx) (hk : k < l.length + 1) : gX (l ++ [x]) k = if k = l.length then x else gX l k := by
  unfold gX
  by_cases h : k = l.length
  · subst h; simp
  · rw [if_neg h]
    simp [List.getD, List.getElem?_append_left (show k < l.length by omega)]
/-- a Model, and where all lies -/
structure Mq where
  sh : Int
  wi : Int
  ra : Int
  ta : Int
  A : Option Addr
  B : Option Addr
  C : Option Addr
  nl : Nat
  al : Nat
  sl : Nat
  c : Nat
  d : Nat
  f : Nat
  nd : List (Int × Int)
  ac : List Int
  sy : List (Int × Int × Int × Nat)
  Ab : Option Addr
  nb : Nat
  cb : Nat
  xs : List Bx
  An : Option Addr
  Au : Option Addr
  n1 : Nat
  n2 : Nat
  d1 : Nat
  d2 : Nat
  cl : List (Int × Int)
  cu : List Int
  ep : Int
  off : Bool
def mqV (q : Mq) : Array Value := #[.int .i64 q.sh, .int .i64 q.wi, .int .i64 q.ra, .int .i64 q.ta, .slice q.A q.nl q.c, .slice q.B q.al q.d, .slice q.C q.sl q.f, .slice q.Ab q.nb q.cb, .slice q.An q.n1 q.d1, .slice q.Au q.n2 q.d2, .int .i64 q.ep, .bool q.off]
/-- X's block is neither the Model's nor its row's -/
def Far (g : Nat) (Ab X : Option Addr) (ys : List Value) : Prop := ys = [] ∨ ∀ a, X = some a → a.block ≠ g ∧ ∀ b, Ab = some b → a.block ≠ b.block
def FarX (g : Nat) (Ab : Option Addr) (x : Bx) : Prop := Far g Ab x.A (rcs x.rl) ∧ Far g Ab x.C (ens x.b.op) ∧ ∀ j, j < x.rl.length → Far g Ab (gC x.rl j).A (ints (gC x.rl j).r.ns)
structure Mm (base : Nat) (w : World) (g : Nat) (q : Mq) : Prop where
  blk : Blk w g 82 (mqV q)
  row : w.ownsRow base 58 4 (.slice q.Ab q.nb q.cb) q.nb (bxs q.xs)
  gb : base ≤ g
  l1 : q.nl = q.nd.length
  l2 : q.al = q.ac.length
  l3 : q.sl = q.sy.length
  l4 : q.nb = q.xs.length
  l5 : q.n1 = q.cl.length
  l6 : q.n2 = q.cu.length
  nds : Nds w w.heap.size q.A q.nd
  ris : Ris w w.heap.size q.B q.ac
  smb : Smb w w.heap.size q.C q.sy
  cn : Nds w w.heap.size q.An q.cl
  cr : Ris w w.heap.size q.Au q.cu
  bm : ∀ i, i < q.xs.length → Bm w (gX q.xs i).A (gX q.xs i).C (gX q.xs i).rl (gX q.xs i).b
  f1 : Far g q.Ab q.A (Mem.nds q.nd)
  f2 : Far g q.Ab q.B (ints q.ac)
  f3 : Far g q.Ab q.C (smbs q.sy)
  f4 : Far g q.Ab q.An (Mem.nds q.cl)
  f5 : Far g q.Ab q.Au (ints q.cu)
  fx : ∀ i, i < q.xs.length → FarX g q.Ab (gX q.xs i)
theorem Mm_below {base : Nat} {w w' : World} {g : Nat} {q : Mq} (h : Mm base w g q) (hb : Below w.heap.size w w') : Mm base w' g q :=
  ⟨Blk.below' h.blk hb, own_below h.row hb, h.gb, h.l1, h.l2, h.l3, h.l4, h.l5, h.l6, Rd.below' h.nds hb hb.size, Rd.below' h.ris hb hb.size, Rd.below' h.smb hb hb.size, Rd.below' h.cn hb hb.size, Rd.below' h.cr hb hb.size, fun i hi => (h.bm i hi).below hb, h.f1, h.f2, h.f3, h.f4, h.f5, h.fx⟩
/-- only the Model's struct and its row may turn -/
structure Kp (w w' : World) (g : Nat) (Ab : Option Addr) : Prop where
  os : w'.os = w.os
  tape : w'.tape = w.tape
  output : w'.output = w.output
  size : w.heap.size ≤ w'.heap.size
  block : ∀ k, k < w.heap.size → k ≠ g → (∀ b, Ab = some b → k ≠ b.block) → w'.heap[k]? = w.heap[k]?
section
variable {w w' w1 : World} {g : Nat} {Ab : Option Addr}
theorem Kp_of_below (h : Below w.heap.size w w') : Kp w w' g Ab := ⟨h.os, h.tape, h.output, h.size, fun k hk _ _ => h.block k hk⟩
theorem Kp_trans (h : Kp w w1 g Ab) (h' : Kp w1 w' g Ab) : Kp w w' g Ab :=
  ⟨h'.os.trans h.os, h'.tape.trans h.tape, h'.output.trans h.output, Nat.le_trans h.size h'.size, fun k hk h1 h2 => (h'.block k (Nat.lt_of_lt_of_le hk h.size) h1 h2).trans (h.block k hk h1 h2)⟩
theorem Kp_step (h : Kp w w1 g Ab) (h' : Below w1.heap.size w1 w') : Kp w w' g Ab := Kp_trans h (Kp_of_below h')
theorem Kp_setg (h : Kp w w1 g Ab) (j : Nat) (v : Value) : Kp w (w1.setCell ⟨g, j, none⟩ v) g Ab :=
  ⟨h.os, h.tape, h.output, by simpa [World.setCell] using h.size, fun k hk h1 h2 => (heap_setCell_other w1 ⟨g, j, none⟩ k v h1).trans (h.block k hk h1 h2)⟩
theorem Kp_setb {gb : Nat} (h : Kp w w1 g (some ⟨gb, 0, none⟩)) (j : Nat) (v : Value) : Kp w (w1.setCell ⟨gb, j, none⟩ v) g (some ⟨gb, 0, none⟩) :=
  ⟨h.os, h.tape, h.output, by simpa [World.setCell] using h.size, fun k hk h1 h2 => (heap_setCell_other w1 ⟨gb, j, none⟩ k v (h2 ⟨gb, 0, none⟩ rfl)).trans (h.block k hk h1 h2)⟩
theorem Kp_past {gn : Nat} (h : Kp w w1 g Ab) (hg : w.heap.size ≤ gn) (j : Nat) (v : Value) : Kp w (w1.setCell ⟨gn, j, none⟩ v) g Ab :=
  ⟨h.os, h.tape, h.output, by simpa [World.setCell] using h.size, fun k hk h1 h2 => (heap_setCell_other w1 ⟨gn, j, none⟩ k v (by show k ≠ gn; omega)).trans (h.block k hk h1 h2)⟩
theorem Rd_setg {X : Option Addr} {xs : List Value} (h : Rd w w.heap.size X xs) (hf : Far g Ab X xs) (j : Nat) (v : Value) : Rd (w.setCell ⟨g, j, none⟩ v) (w.setCell ⟨g, j, none⟩ v).heap.size X xs := by
  rcases hf with hf | hf
  · exact .inl hf
  · exact Rd.keep' h (Nat.lt_succ_self _) (fun a ha => (hf a ha).1) _
theorem Rd_setb {gb : Nat} {X : Option Addr} {xs : List Value} (h : Rd w w.heap.size X xs) (hf : Far g (some ⟨gb, 0, none⟩) X xs) (j : Nat) (v : Value) : Rd (w.setCell ⟨gb, j, none⟩ v) (w.setCell ⟨gb, j, none⟩ v).heap.size X xs := by
  rcases hf with hf | hf
  · exact .inl hf
  · exact Rd.keep' h (Nat.lt_succ_self _) (fun a ha => (hf a ha).2 ⟨gb, 0, none⟩ rfl) _
end
theorem Bm_setg {w : World} {g : Nat} {Ab : Option Addr} {x : Bx} (h : Bm w x.A x.C x.rl x.b) (hf : FarX g Ab x) (j : Nat) (v : Value) : Bm (w.setCell ⟨g, j, none⟩ v) x.A x.C x.rl x.b :=
  ⟨Rd_setg h.r hf.1 j v, h.e, fun i hi => Rd_setg (h.n i hi) (hf.2.2 i hi) j v, Rd_setg h.o hf.2.1 j v⟩
theorem Bm_setb {w : World} {g gb : Nat} {x : Bx} (h : Bm w x.A x.C x.rl x.b) (hf : FarX g (some ⟨gb, 0, none⟩) x) (j : Nat) (v : Value) : Bm (w.setCell ⟨gb, j, none⟩ v) x.A x.C x.rl x.b :=
  ⟨Rd_setb h.r hf.1 j v, h.e, fun i hi => Rd_setb (h.n i hi) (hf.2.2 i hi) j v, Rd_setb h.o hf.2.1 j v⟩
/-- a cell of the Model's struct that names no memory is written -/
theorem Mm_set {base : Nat} {w : World} {g : Nat} {q : Mq} (h : Mm base w g q) (j : Nat) (v : Value) (q' : Mq) (hq : mqV q' = (mqV q).setIfInBounds j v)
    (e : q'.A = q.A ∧ q'.B = q.B ∧ q'.C = q.C ∧ q'.nl = q.nl ∧ q'.al = q.al ∧ q'.sl = q.sl ∧ q'.nd = q.nd ∧ q'.ac = q.ac ∧ q'.sy = q.sy ∧ q'.Ab = q.Ab ∧ q'.nb = q.nb ∧ q'.cb = q.cb ∧ q'.xs = q.xs ∧ q'.An = q.An ∧ q'.Au = q.Au ∧ q'.n1 = q.n1 ∧ q'.n2 = q.n2 ∧ q'.cl = q.cl ∧ q'.cu = q.cu) :
    Mm base (w.setCell ⟨g, j, none⟩ v) g q' := by
  obtain ⟨sh, wi, ra, ta, A, B, C, nl, al, sl, c, d, f, nd, ac, sy, Ab, nb, cb, xs, An, Au, n1, n2, d1, d2, cl, cu, ep, off⟩ := q'
  simp only at e hq
  obtain ⟨rfl, rfl, rfl, rfl, rfl, rfl, rfl, rfl, rfl, rfl, rfl, rfl, rfl, rfl, rfl, rfl, rfl, rfl, rfl⟩ := e
  refine ⟨?_, own_st h.row h.blk (by decide) j v, h.gb, h.l1, h.l2, h.l3, h.l4, h.l5, h.l6, Rd_setg h.nds h.f1 j v, Rd_setg h.ris h.f2 j v, Rd_setg h.smb h.f3 j v, Rd_setg h.cn h.f4 j v, Rd_setg h.cr h.f5 j v, fun i hi => Bm_setg (h.bm i hi) (h.fx i hi) j v, h.f1, h.f2, h.f3, h.f4, h.f5, h.fx⟩
  rw [hq]
  exact blk_st h.blk j v
theorem Mm_off {base : Nat} {w : World} {g : Nat} {q : Mq} (h : Mm base w g q) (b : Bool) : Mm base (w.setCell ⟨g, 11, none⟩ (.bool b)) g { q with off := b } :=
  Mm_set h 11 _ _ rfl ⟨rfl, rfl, rfl, rfl, rfl, rfl, rfl, rfl, rfl, rfl, rfl, rfl, rfl, rfl, rfl, rfl, rfl, rfl, rfl⟩
theorem Mm_ep {base : Nat} {w : World} {g : Nat} {q : Mq} (h : Mm base w g q) (x : Int) : Mm base (w.setCell ⟨g, 10, none⟩ (.int .i64 x)) g { q with ep := x } :=
  Mm_set h 10 _ _ rfl ⟨rfl, rfl, rfl, rfl, rfl, rfl, rfl, rfl, rfl, rfl, rfl, rfl, rfl, rfl, rfl, rfl, rfl, rfl, rfl⟩
/-- another State -/
theorem Mm_cr {base : Nat} {w : World} {g : Nat} {q : Mq} (h : Mm base w g q) {An Au : Option Addr} {n1 n2 d1 d2 : Nat} {cl : List (Int × Int)} {cu : List Int} (hn : Nds w w.heap.size An cl) (hu : Ris w w.heap.size Au cu) (fn : Far g q.Ab An (nds cl)) (fu : Far g q.Ab Au (ints cu)) (e1 : n1 = cl.length) (e2 : n2 = cu.length) :
    Mm base ((w.setCell ⟨g, 8, none⟩ (.slice An n1 d1)).setCell ⟨g, 9, none⟩ (.slice Au n2 d2)) g { q with An := An, Au := Au, n1 := n1, n2 := n2, d1 := d1, d2 := d2, cl := cl, cu := cu } := by
  have s := fun {X : Option Addr} {xs : List Value} (hx : Rd w w.heap.size X xs) (hf : Far g q.Ab X xs) => Rd_setg (Rd_setg hx hf 8 (.slice An n1 d1)) hf 9 (.slice Au n2 d2)
  exact ⟨blk_st (blk_st h.blk 8 _) 9 _, own_st (own_st h.row h.blk (by decide) 8 _) (blk_st h.blk 8 _) (by decide) 9 _, h.gb, h.l1, h.l2, h.l3, h.l4, e1, e2, s h.nds h.f1, s h.ris h.f2, s h.smb h.f3, s hn fn, s hu fu, fun i hi => Bm_setg (Bm_setg (h.bm i hi) (h.fx i hi) 8 _) (h.fx i hi) 9 _, h.f1, h.f2, h.f3, fn, fu, h.fx⟩
/-- another book of a shard -/
theorem Mm_book {base : Nat} {w : World} {g gb : Nat} {q : Mq} (h : Mm base w g q) (hA : q.Ab = some ⟨gb, 0, none⟩) {i : Nat} (hi : i < q.xs.length) {x : Bx} (hx : Bm w x.A x.C x.rl x.b) (fx : FarX g q.Ab x) :
    Mm base ((((w.setCell ⟨gb, i * 4, none⟩ (.int .i64 x.b.sh)).setCell ⟨gb, i * 4 + 1, none⟩ (.int .i64 x.b.ca)).setCell ⟨gb, i * 4 + 2, none⟩ (.slice x.A x.b.rows.length x.c)).setCell ⟨gb, i * 4 + 3, none⟩ (.slice x.C x.b.op.length x.d)) g { q with xs := q.xs.set i x } := by
  obtain ⟨sh, wi, ra, ta, A, B, C, nl, al, sl, c, d, f, nd, ac, sy, Ab, nb, cb, xs, An, Au, n1, n2, d1, d2, cl, cu, ep, off⟩ := q
  simp only at hA hi fx
  subst hA
  obtain ⟨h1, h2, h3, h4, h5, h6, h7, h8, h9, h10, h11, h12, h13, h14, h15, h16, h17, h18, h19, h20, h21⟩ := h
  simp only at h1 h2 h3 h4 h5 h6 h7 h8 h9 h10 h11 h12 h13 h14 h15 h16 h17 h18 h19 h20 h21
  obtain ⟨s1, g1⟩ := World.ownsRow.stored h2 (i * 4) (.int .i64 x.b.sh)
  obtain ⟨s2, g2⟩ := World.ownsRow.stored s1 (i * 4 + 1) (.int .i64 x.b.ca)
  obtain ⟨s3, g3⟩ := World.ownsRow.stored s2 (i * 4 + 2) (.slice x.A x.b.rows.length x.c)
  obtain ⟨s4, g4⟩ := World.ownsRow.stored s3 (i * 4 + 3) (.slice x.C x.b.op.length x.d)
  have k1 := blk_own_grown h1 h2 (by decide) g1
  have k2 := blk_own_grown k1 s1 (by decide) g2
  have k3 := blk_own_grown k2 s2 (by decide) g3
  have k4 := blk_own_grown k3 s3 (by decide) g4
  have s := fun {X : Option Addr} {ys : List Value} (hy : Rd w w.heap.size X ys) (hf : Far g (some ⟨gb, 0, none⟩) X ys) => Rd_setb (Rd_setb (Rd_setb (Rd_setb hy hf (i * 4) (.int .i64 x.b.sh)) hf (i * 4 + 1) (.int .i64 x.b.ca)) hf (i * 4 + 2) (.slice x.A x.b.rows.length x.c)) hf (i * 4 + 3) (.slice x.C x.b.op.length x.d)
  have sb := fun {y : Bx} (hy : Bm w y.A y.C y.rl y.b) (hf : FarX g (some ⟨gb, 0, none⟩) y) => Bm_setb (Bm_setb (Bm_setb (Bm_setb hy hf (i * 4) (.int .i64 x.b.sh)) hf (i * 4 + 1) (.int .i64 x.b.ca)) hf (i * 4 + 2) (.slice x.A x.b.rows.length x.c)) hf (i * 4 + 3) (.slice x.C x.b.op.length x.d)
  refine ⟨k4, ?_, h3, h4, h5, h6, ?_, h8, h9, s h10 h16, s h11 h17, s h12 h18, s h13 h19, s h14 h20, ?_, h16, h17, h18, h19, h20, ?_⟩
  · show World.ownsRow _ _ _ _ _ _ (bxs (xs.set i x))
    rw [bxs_set _ _ _ hi]; exact s4
  · show nb = (xs.set i x).length
    rw [List.length_set]; exact h7
  · intro k hk
    have hk' : k < xs.length := by simpa using hk
    show Bm _ (gX (xs.set i x) k).A (gX (xs.set i x) k).C (gX (xs.set i x) k).rl (gX (xs.set i x) k).b
    rw [gX_set _ _ _ _ hi]
    by_cases e : k = i
    · rw [if_pos e]; exact sb hx fx
    · rw [if_neg e]; exact sb (h15 k hk') (h21 k hk')
  · intro k hk
    have hk' : k < xs.length := by simpa using hk
    show FarX g _ (gX (xs.set i x) k)
    rw [gX_set _ _ _ _ hi]
    by_cases e : k = i
    · rw [if_pos e]; exact fx
    · rw [if_neg e]; exact h21 k hk'
/-- what lies behind base is far from what lies ahead of it -/
theorem Far_new {g base : Nat} {Ab X : Option Addr} {ys : List Value} (hg : g < base) (hb : ∀ b, Ab = some b → b.block < base) (hx : ∀ a, X = some a → base ≤ a.block) : Far g Ab X ys :=
  .inr fun a ha => ⟨by have := hx a ha; omega, fun b hb' => by have := hx a ha; have := hb b hb'; omega⟩
theorem FarX_new {g base : Nat} {Ab : Option Addr} {x : Bx} (hg : g < base) (hb : ∀ b, Ab = some b → b.block < base) (hx : Fb base x.A x.C x.rl) : FarX g Ab x :=
  ⟨Far_new hg hb hx.1, Far_new hg hb hx.2.1, fun j hj => Far_new hg hb (hx.2.2 j hj)⟩
/-- what was there ahead of the Model's struct and of its row -/
theorem Far_of {w : World} {B g : Nat} {Ab X : Option Addr} {ys : List Value} (h : Rd w B X ys) (hg : B ≤ g ∨ ∀ a, X = some a → a.block ≠ g) (hb : ∀ b, Ab = some b → B ≤ b.block ∨ ∀ a, X = some a → a.block ≠ b.block) : Far g Ab X ys := by
  rcases h with h | ⟨b, o, hA, hlt, _⟩
  · exact .inl h
  · refine .inr fun a ha => ⟨?_, fun b' hb' => ?_⟩
    · rcases hg with hg | hg
      · rw [hA] at ha
        injection ha with ha
        subst ha
        show b ≠ g
        omega
      · exact hg a ha
    · rcases hb b' hb' with h1 | h1
      · rw [hA] at ha
        injection ha with ha
        subst ha
        show b ≠ b'.block
        omega
      · exact h1 a ha
theorem Mm_lt {base : Nat} {w : World} {g : Nat} {q : Mq} (h : Mm base w g q) : g < w.heap.size ∧ ∀ b, q.Ab = some b → b.block < w.heap.size :=
  ⟨h.blk.lt, fun b hb => (World.ownsRow.lt h.row b.block (by rw [hb]; rfl)).2⟩
theorem q12_of {W : World} {g : Nat} {te : TypeId} {v0 v1 v2 v3 v4 v5 v6 v7 v8 v9 v10 v11 : Value} (h : Blk W g te #[v0, v1, v2, v3, v4, v5, v6, v7, v8, v9, v10, v11]) :
    W.cell? ⟨g, 0, none⟩ = some v0 ∧ W.cell? ⟨g, 1, none⟩ = some v1 ∧ W.cell? ⟨g, 2, none⟩ = some v2 ∧ W.cell? ⟨g, 3, none⟩ = some v3 ∧ W.cell? ⟨g, 4, none⟩ = some v4 ∧ W.cell? ⟨g, 5, none⟩ = some v5 ∧ W.cell? ⟨g, 6, none⟩ = some v6 ∧ W.cell? ⟨g, 7, none⟩ = some v7 ∧ W.cell? ⟨g, 8, none⟩ = some v8 ∧ W.cell? ⟨g, 9, none⟩ = some v9 ∧ W.cell? ⟨g, 10, none⟩ = some v10 ∧ W.cell? ⟨g, 11, none⟩ = some v11 ∧ W.frozen? ⟨g, 0, none⟩ = false ∧ W.frozen? ⟨g, 1, none⟩ = false ∧ W.frozen? ⟨g, 2, none⟩ = false ∧ W.frozen? ⟨g, 3, none⟩ = false ∧ W.frozen? ⟨g, 4, none⟩ = false ∧ W.frozen? ⟨g, 5, none⟩ = false ∧ W.frozen? ⟨g, 6, none⟩ = false ∧ W.frozen? ⟨g, 7, none⟩ = false ∧ W.frozen? ⟨g, 8, none⟩ = false ∧ W.frozen? ⟨g, 9, none⟩ = false ∧ W.frozen? ⟨g, 10, none⟩ = false ∧ W.frozen? ⟨g, 11, none⟩ = false :=
  ⟨h.cell 0, h.cell 1, h.cell 2, h.cell 3, h.cell 4, h.cell 5, h.cell 6, h.cell 7, h.cell 8, h.cell 9, h.cell 10, h.cell 11, h.thaw 0, h.thaw 1, h.thaw 2, h.thaw 3, h.thaw 4, h.thaw 5, h.thaw 6, h.thaw 7, h.thaw 8, h.thaw 9, h.thaw 10, h.thaw 11⟩
end Go.Proofs.Ytkmkaidhpbjbnaa.Mdp

/- A block that a Model does not read: what is written there keeps the Model. No condition. -/
namespace Go.Proofs.Ytkmkaidhpbjbnaa.Mdz
set_option maxRecDepth 100000
open Go.ChangeShapes Go.WideShapes Go.ChangeAt Go.RowKit Mem Tre Ref3 Law3 Fix3 Cfg Crd CrdB CrdC Rr4 Bkp Bks Bcl Dlk Stk Apt Bko Bku Bka Bkc Mdp
set_option linter.unusedVariables false
set_option linter.unusedSimpArgs false
def FarE (z : Nat) (X : Option Addr) (xs : List Value) : Prop := xs = [] ∨ ∀ a, X = some a → a.block ≠ z
theorem FarE_of {w : World} {B z : Nat} {X : Option Addr} {xs : List Value} (h : Rd w B X xs) (hz : B ≤ z) : FarE z X xs := by
  rcases h with h | ⟨b, o, hA, hb, _⟩
  · exact .inl h
  · refine .inr fun a ha => ?_
    rw [hA] at ha
    injection ha with ha
    subst ha
    show b ≠ z
    omega
theorem FarE_new {z base : Nat} {X : Option Addr} {xs : List Value} (hz : z < base) (hx : ∀ a, X = some a → base ≤ a.block) : FarE z X xs := .inr fun a ha => by have := hx a ha; omega
theorem Rd_setz {w : World} {z : Nat} {X : Option Addr} {xs : List Value} (h : Rd w w.heap.size X xs) (hf : FarE z X xs) (j : Nat) (v : Value) : Rd (w.setCell ⟨z, j, none⟩ v) (w.setCell ⟨z, j, none⟩ v).heap.size X xs := by
  rcases hf with hf | hf
  · exact .inl hf
  · exact Rd.keep' h (Nat.lt_succ_self _) hf _
def FzB (z : Nat) (x : Bx) : Prop := FarE z x.A (rcs x.rl) ∧ FarE z x.C (ens x.b.op) ∧ ∀ j, j < x.rl.length → FarE z (gC x.rl j).A (ints (gC x.rl j).r.ns)
theorem Bm_setz {w : World} {z : Nat} {x : Bx} (h : Bm w x.A x.C x.rl x.b) (hf : FzB z x) (j : Nat) (v : Value) : Bm (w.setCell ⟨z, j, none⟩ v) x.A x.C x.rl x.b :=
  ⟨Rd_setz h.r hf.1 j v, h.e, fun i hi => Rd_setz (h.n i hi) (hf.2.2 i hi) j v, Rd_setz h.o hf.2.1 j v⟩
structure Mz (z g : Nat) (q : Mq) : Prop where
  ne : z ≠ g
  z1 : FarE z q.A (nds q.nd)
  z2 : FarE z q.B (ints q.ac)
  z3 : FarE z q.C (smbs q.sy)
  z4 : FarE z q.An (nds q.cl)
  z5 : FarE z q.Au (ints q.cu)
  zx : ∀ i, i < q.xs.length → FzB z (gX q.xs i)
theorem Mz_of {base : Nat} {w : World} {g z : Nat} {q : Mq} (h : Mm base w g q) (hz : w.heap.size ≤ z) : Mz z g q :=
  ⟨by have := h.blk.lt; omega, FarE_of h.nds hz, FarE_of h.ris hz, FarE_of h.smb hz, FarE_of h.cn hz, FarE_of h.cr hz, fun i hi => ⟨FarE_of (h.bm i hi).r hz, FarE_of (h.bm i hi).o hz, fun j hj => FarE_of ((h.bm i hi).n j hj) hz⟩⟩
theorem Mm_setz {base : Nat} {w : World} {g z : Nat} {q : Mq} {te : TypeId} {cs : Array Value} (h : Mm base w g q) (hm : Mz z g q) (hk : Blk w z te cs) (hne : 58 ≠ te) (j : Nat) (v : Value) : Mm base (w.setCell ⟨z, j, none⟩ v) g q :=
  ⟨far_st h.blk (fun e => hm.ne e.symm) v, own_st h.row hk hne j v, h.gb, h.l1, h.l2, h.l3, h.l4, h.l5, h.l6, Rd_setz h.nds hm.z1 j v, Rd_setz h.ris hm.z2 j v, Rd_setz h.smb hm.z3 j v, Rd_setz h.cn hm.z4 j v, Rd_setz h.cr hm.z5 j v, fun i hi => Bm_setz (h.bm i hi) (hm.zx i hi) j v, h.f1, h.f2, h.f3, h.f4, h.f5, h.fx⟩
theorem Mz_book {z g : Nat} {q : Mq} (h : Mz z g q) {i : Nat} (hi : i < q.xs.length) {x : Bx} (hx : FzB z x) : Mz z g { q with xs := q.xs.set i x } := by
  refine ⟨h.ne, h.z1, h.z2, h.z3, h.z4, h.z5, fun k hk => ?_⟩
  have hk' : k < q.xs.length := by simpa using hk
  show FzB z (gX (q.xs.set i x) k)
  rw [gX_set _ _ _ _ hi]
  by_cases e : k = i
  · rw [if_pos e]; exact hx
  · rw [if_neg e]; exact h.zx k hk'
theorem FzB_new {z base : Nat} {x : Bx} (hz : z < base) (hx : Fb base x.A x.C x.rl) : FzB z x :=
  ⟨FarE_new hz hx.1, FarE_new hz hx.2.1, fun j hj => FarE_new hz (hx.2.2 j hj)⟩
end Go.Proofs.Ytkmkaidhpbjbnaa.Mdz
