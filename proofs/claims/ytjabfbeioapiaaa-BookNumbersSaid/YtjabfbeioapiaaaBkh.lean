/- Contracts of book's Worth and Begin, and of the number of the next order. Condition: the book lies in memory and is not long. -/
import Derived.Test.YtjabfbeioapiaaaBkf
import Derived.Test.YtjabfbeioapiaaaStk
import Derived.BigQuiet
import Derived.Deep.DeepCutAuto
import Derived.Deep.RegionHeld3
namespace Go.Proofs.Ytjabfbeioapiaaa.Bkh
set_option maxRecDepth 100000
open Go.ChangeShapes Go.WideShapes Go.ChangeAt Go.RowKit Mem Tre Ref3 Law3 CrdB CrdC Bkp Bks Bkf Stk
set_option linter.unusedVariables false
set_option linter.unusedSimpArgs false
set_option maxHeartbeats 2000000 in
theorem next_any (sk wi ra ta : Int) (A1 A2 A3 : Option Addr) (n1 n2 n3 c1 c2 c3 : Nat) (sh ca : Int) (A C : Option Addr) (nr no c d : Nat) (w : World) (h1 : 1 ≤ sk) (h2 : sk ≤ 1000) (h3 : 0 ≤ sh) (h4 : sh ≤ 1000) (h5 : 0 ≤ ca) (h6 : ca ≤ 1000000000) :
    Calls Try.prog 19 #[.agg #[.int .i64 sk, .int .i64 wi, .int .i64 ra, .int .i64 ta, .slice A1 n1 c1, .slice A2 n2 c2, .slice A3 n3 c3], .agg #[.int .i64 sh, .int .i64 ca, .slice A nr c, .slice C no d]] w (fun r w' => r = .returned (.int .i64 (sh + sk * ca)) ∧ Below w.heap.size w w') := by
  have b0 : Hid (Below w.heap.size w ((w.alloc (.cells #[.int .i64 sk, .int .i64 wi, .int .i64 ra, .int .i64 ta, .slice A1 n1 c1, .slice A2 n2 c2, .slice A3 n3 c3] 32)).alloc (.cells #[.int .i64 sh, .int .i64 ca, .slice A nr c, .slice C no d] 37))) := ((Below.refl _ _).alloc (Nat.le_refl _) _).alloc (by simp) _
  have q1 : 9223372036854774 ≤ (9223372036854775807 - sh).tdiv sk := by
    rw [Int.tdiv_eq_ediv_of_nonneg (by omega)]
    exact Int.le_ediv_of_mul_le (by omega) (by
      have : 9223372036854774 * sk ≤ 9223372036854774 * 1000 := Int.mul_le_mul_of_nonneg_left h2 (by decide)
      omega)
  have q2 : 0 ≤ sk * ca ∧ sk * ca ≤ 1000 * 1000000000 := ⟨Int.mul_nonneg (by omega) h5, Int.mul_le_mul h2 h6 h5 (by decide)⟩
  have e1 : wrap64 (sk * ca) = sk * ca := by unfold wrap64; omega
  have e2 : wrap64 (sh + sk * ca) = sh + sk * ca := by unfold wrap64; omega
  have E2 := Lib.hid e2
  have e3 : wrap64 (9223372036854775807 - sh) = 9223372036854775807 - sh := by unfold wrap64; omega
  have q3 : (9223372036854775807 - sh).tdiv sk ≤ 9223372036854775807 := by
    rw [Int.tdiv_eq_ediv_of_nonneg (by omega)]
    have := Int.ediv_le_self (b := sk) (show (0 : Int) ≤ 9223372036854775807 - sh by omega)
    omega
  have t1 : decide (sk < 1) = false := by simp; omega
  have t2 : decide (sh < 0) = false := by simp; omega
  have t3 : decide (ca < 0) = false := by simp; omega
  have e4 : IntKind.i64.wrap (9223372036854775807 - sh) = 9223372036854775807 - sh := by rw [IntKind.wrap_i64]; omega
  have e5 : IntKind.i64.wrap ((9223372036854775807 - sh).tdiv sk) = (9223372036854775807 - sh).tdiv sk := by rw [IntKind.wrap_i64]; omega
  have e6 : wrap64 ((9223372036854775807 - sh).tdiv sk) = (9223372036854775807 - sh).tdiv sk := by unfold wrap64; omega
  have t4 : decide ((9223372036854775807 - sh).tdiv sk ≤ ca) = false := by simp; omega
  have t5 : (sk == 0) = false := by rw [beq_eq_false_iff_ne]; omega
  have t6 : ¬ sk = 0 := by omega
  have HSK := Lib.hid h1
  go_enter Try.func19, Try.ntmps19
  go_upto_region 1 with fail
  clear q1 q2 q3 h1 h2 h3 h4 h5 h6
  go_quiet (fail)
  have hnq : Hid (Below w.heap.size w ((((w.alloc (.cells #[.int .i64 sk, .int .i64 wi, .int .i64 ra, .int .i64 ta, .slice A1 n1 c1, .slice A2 n2 c2, .slice A3 n3 c3] 32)).alloc (.cells #[.int .i64 sh, .int .i64 ca, .slice A nr c, .slice C no d] 37))).drewN nq)) := Below.drewN' b0.out nq
  go_wp2_with fail
  go_ret
  exact ⟨congrArg Ending.returned (congrArg (Value.int .i64) E2.out), hnq.out⟩
set_option maxHeartbeats 2000000 in
theorem plus_any (sum : Int) (e : En) (w : World) (h0 : 0 ≤ sum) (h1 : sum ≤ 9223372036854775807) (hp : inI e.o.p) (hl : inI e.lf) :
    Calls Try.prog 34 #[.int .i64 sum, enA e] w (fun r w' => r = .returned (.int .i64 (plusF sum e.o.p e.lf)) ∧ Below w.heap.size w w') := by
  obtain ⟨id, ⟨a, s, x, p, q, n, t⟩, lf, st, ep⟩ := e
  rw [enA_eq]
  simp only [inI] at hp hl
  have hb : Below w.heap.size w (w.alloc (.cells #[.int .i64 id, .int .i64 a, .int .i64 s, .bool x, .int .i64 p, .int .i64 q, .int .i64 n, .int .i64 t, .int .i64 lf, .int .i64 st, .int .i64 ep] 58)) := (Below.refl _ _).alloc (Nat.le_refl _) _
  have HB := Lib.hid hb
  clear hb
  have HF : Hid (∀ v, v = plusF sum p lf → v = plusF sum p lf) := fun v h => h
  by_cases c1 : p < 1
  · have hf : Hid (plusF sum p lf = sum) := by show _ = _; unfold plusF; rw [if_pos (Or.inl c1)]
    have t1 : decide (p < 1) = true := by simp [c1]
    go_enter Try.func34, Try.ntmps34
    go_wp2_with fail
    go_ret
    exact ⟨congrArg Ending.returned (congrArg (Value.int .i64) hf.out.symm), HB.out⟩
  · have t1 : decide (p < 1) = false := by simp; omega
    by_cases c2 : lf < 1
    · have hf : Hid (plusF sum p lf = sum) := by show _ = _; unfold plusF; rw [if_pos (Or.inr c2)]
      have t2 : decide (lf < 1) = true := by simp [c2]
      go_enter Try.func34, Try.ntmps34
      go_wp2_with fail
      go_ret
      exact ⟨congrArg Ending.returned (congrArg (Value.int .i64) hf.out.symm), HB.out⟩
    · have t2 : decide (lf < 1) = false := by simp; omega
      have t3 : (lf == 0) = false := by rw [beq_eq_false_iff_ne]; omega
      have t4 : ¬ lf = 0 := by omega
      have ed : (9223372036854775807 - sum).tdiv lf = (9223372036854775807 - sum) / lf := Int.tdiv_eq_ediv_of_nonneg (by omega)
      have q3 : 0 ≤ (9223372036854775807 - sum) / lf := Int.ediv_nonneg (by omega) (by omega)
      have q4 : (9223372036854775807 - sum) / lf ≤ 9223372036854775807 := by
        have := Int.ediv_le_self (b := lf) (show (0 : Int) ≤ 9223372036854775807 - sum by omega)
        omega
      have e3 : wrap64 (9223372036854775807 - sum) = 9223372036854775807 - sum := by unfold wrap64; omega
      have e6 : wrap64 ((9223372036854775807 - sum).tdiv lf) = (9223372036854775807 - sum) / lf := by rw [ed]; unfold wrap64; omega
      by_cases c3 : (9223372036854775807 - sum) / lf < p
      · have hf : Hid (plusF sum p lf = 9223372036854775807) := by show _ = _; unfold plusF; rw [if_neg (by omega), if_pos c3]
        have t5 : decide ((9223372036854775807 - sum).tdiv lf < p) = true := by rw [ed]; simp [c3]
        have t6 : decide ((9223372036854775807 - sum) / lf < p) = true := by simp [c3]
        clear c1 c2 c3 ed q3 q4 hp hl
        go_enter Try.func34, Try.ntmps34
        go_wp2_with fail
        go_ret
        exact ⟨congrArg Ending.returned (congrArg (Value.int .i64) hf.out.symm), HB.out⟩
      · have hf : Hid (plusF sum p lf = sum + p * lf) := by show _ = _; unfold plusF; rw [if_neg (by omega), if_neg c3]
        have t5 : decide ((9223372036854775807 - sum).tdiv lf < p) = false := by rw [ed]; simp [c3]
        have t6 : decide ((9223372036854775807 - sum) / lf < p) = false := by simp [c3]
        have r1 := plusF_in (p := p) (lf := lf) h0 h1
        rw [hf.out] at r1
        have r2 : 0 ≤ p * lf := Int.mul_nonneg (by omega) (by omega)
        have e7 : wrap64 (p * lf) = p * lf := by unfold wrap64; omega
        have e8 : wrap64 (sum + p * lf) = sum + p * lf := by unfold wrap64; omega
        have E8 := Lib.hid e8
        clear c1 c2 c3 ed q3 q4 r1 r2 hp hl
        go_enter Try.func34, Try.ntmps34
        go_wp2_with fail
        go_ret
        exact ⟨congrArg Ending.returned (congrArg (Value.int .i64) (by first | exact hf.out.symm | exact (E8.out.trans hf.out.symm))), HB.out⟩
theorem worth_drop (l : List En) (i : Nat) (a sum : Int) (hi : i < l.length) : worthF (l.drop i) a sum = worthF (l.drop (i + 1)) a (if (gE l i).o.a = a then plusF sum (gE l i).o.p (gE l i).lf else sum) := by
  rw [List.drop_eq_getElem_cons hi]
  have e : gE l i = l[i] := by simp [gE, hi]
  rw [e]
  rfl
set_option maxHeartbeats 2000000 in
theorem worth_any (sh ca : Int) (A C : Option Addr) (nr no c d : Nat) (op : List En) (ac : Int) (w : World) (HNO : Hid (no = op.length)) (h : Hid (Rd w w.heap.size C (ens op))) (hmax : (no : Int) ≤ 1000000) (hwf : Hid (∀ i, i < op.length → inI (gE op i).o.p ∧ inI (gE op i).lf)) :
    Calls Try.prog 24 #[.agg #[.int .i64 sh, .int .i64 ca, .slice A nr c, .slice C no d], .int .i64 ac] w (fun r w' => r = .returned (.int .i64 (worthF op ac 0)) ∧ Below w.heap.size w w') := by
  have b0 : Hid (Below w.heap.size w (w.alloc (.cells #[.int .i64 sh, .int .i64 ca, .slice A nr c, .slice C no d] 37))) := (Below.refl _ _).alloc (Nat.le_refl _) _
  go_enter Try.func24, Try.ntmps24
  go_wp2_with fail
  go_loopg [5, 11] no (fun g s5 s11 w' => ∃ (i : Nat) (sum : Int), i + g = no ∧ s5 = .int .i64 sum ∧ s11 = .int .i64 i ∧ Hid (worthF (op.drop i) ac sum = worthF op ac 0) ∧ Hid (0 ≤ sum ∧ sum ≤ 9223372036854775807) ∧ Hid (Below w.heap.size w w'))
  case atStart => exact ⟨0, 0, by omega, rfl, rfl, (by show _ = _; rw [List.drop_zero]), (by show _ ∧ _; omega), b0⟩
  case round =>
    obtain ⟨i, sum, hi, rfl, rfl, hsum, hin, hbel⟩ := hrel
    by_cases hlt : i < no
    · obtain ⟨g, rfl⟩ : ∃ g, gk = g + 1 := ⟨gk - 1, by omega⟩
      have t0 : decide ((i : Int) < (no : Int)) = true := by simp; omega
      have hlo : i < op.length := by rw [← HNO.out]; exact hlt
      obtain ⟨b, o, hA, hb, hcc⟩ := Ens.at (Rd.below' h.out hbel.out hbel.out.size) (by omega)
      have hcs := hcc i hlo
      subst hA
      have HST := Lib.hid (worth_drop op i ac sum hlo)
      have HWF := Lib.hid (hwf.out i hlo)
      clear hcc hlo
      generalize gE op i = E at hcs HST HWF
      obtain ⟨id, ⟨a, s, x, p, q, n, t⟩, lf, st, ep⟩ := E
      obtain ⟨c0, c1, c2, c3, c4, c5, c6, c7, c8, c9, c10⟩ := hcs
      simp only [] at c0 c1 c2 c3 c4 c5 c6 c7 c8 c9 c10
      have bA : Hid (Below w.heap.size w (wr.alloc (.cells #[.int .i64 id, .int .i64 a, .int .i64 s, .bool x, .int .i64 p, .int .i64 q, .int .i64 n, .int .i64 t, .int .i64 lf, .int .i64 st, .int .i64 ep] 58))) := hbel.out.alloc hbel.out.size _
      by_cases ha : a = ac
      · have t1 : (a == ac) = true := by simp [ha]
        have HS : Hid (worthF (op.drop i) ac sum = worthF (op.drop (i + 1)) ac (plusF sum p lf)) := by
          show _ = _
          rw [HST.out]
          simp only [ha, if_true]
        have hpin := Lib.hid (plusF_in (p := p) (lf := lf) hin.out.1 hin.out.2)
        clear ha HST
        go_wp2_with fail
        refine (plus_any sum ⟨id, ⟨a, s, x, p, q, n, t⟩, lf, st, ep⟩ _ hin.out.1 hin.out.2 HWF.out.1 HWF.out.2).mono ?_
        generalize hs : plusF sum p lf = sum2 at HS hpin
        (try simp only [] at hs ⊢)
        (try rw [hs])
        rintro r w1 ⟨rfl, hb1⟩
        have B1 := Lib.hid (below_step bA.out hb1)
        clear hb1 bA hs
        go_wp2_with fail
        go_roundg g
        case measure => omega
        case rel => exact ⟨i + 1, sum2, by omega, rfl, by rw [Int.natCast_add]; rfl, (by show _ = _; rw [← HS.out]; exact hsum.out), hpin, B1⟩
      · have t1 : (a == ac) = false := by simp [ha]
        have HS : Hid (worthF (op.drop i) ac sum = worthF (op.drop (i + 1)) ac sum) := by
          show _ = _
          rw [HST.out]
          simp only [ha, if_false]
        clear ha HST
        go_wp2_with fail
        go_roundg g
        case measure => omega
        case rel => exact ⟨i + 1, sum, by omega, rfl, by rw [Int.natCast_add]; rfl, (by show _ = _; rw [← HS.out]; exact hsum.out), hin, bA⟩
    · have t0 : decide ((i : Int) < (no : Int)) = false := by simp; omega
      have hfin : Hid (sum = worthF op ac 0) := by
        show _ = _
        rw [← hsum.out, List.drop_of_length_le (by have := HNO.out; omega)]
        rfl
      go_wp2_with fail
      go_ret
      exact ⟨congrArg Ending.returned (congrArg (Value.int .i64) hfin.out), hbel.out⟩
end Go.Proofs.Ytjabfbeioapiaaa.Bkh
