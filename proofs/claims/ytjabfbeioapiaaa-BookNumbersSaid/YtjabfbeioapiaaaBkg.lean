/- Contracts of book's Find, Worth, Look, and of the number of the next order. Condition: the book lies in memory and is not long. -/
import Derived.Test.YtjabfbeioapiaaaBkf
import Derived.Test.YtjabfbeioapiaaaStk
namespace Go.Proofs.Ytjabfbeioapiaaa.Bkg
set_option maxRecDepth 100000
open Go.ChangeShapes Go.WideShapes Go.ChangeAt Go.RowKit Mem Tre Ref3 Law3 CrdB CrdC Bkp Bks Bkf Stk
set_option linter.unusedVariables false
set_option linter.unusedSimpArgs false
def findE (l : List En) (k : Int) : En := if posE l k < l.length then gE l (posE l k) else en0
def findB (l : List En) (k : Int) : Bool := decide (posE l k < l.length)
set_option maxHeartbeats 2000000 in
theorem find_any (sh ca : Int) (A C : Option Addr) (nr no c d : Nat) (op : List En) (k : Int) (w : World) (HNO : Hid (no = op.length)) (h : Hid (Rd w w.heap.size C (ens op))) (hmax : (no : Int) ≤ 1000000) :
    Calls Try.prog 13 #[.agg #[.int .i64 sh, .int .i64 ca, .slice A nr c, .slice C no d], .int .i64 k] w (fun r w' => r = .returned (.tuple #[enA (findE op k), .bool (findB op k)]) ∧ Below w.heap.size w w') := by
  have b0 : Hid (Below w.heap.size w ((w.alloc (.cells #[.int .i64 sh, .int .i64 ca, .slice A nr c, .slice C no d] 37)).alloc (.cells #[.int .i64 0, .int .i64 0, .int .i64 0, .bool false, .int .i64 0, .int .i64 0, .int .i64 0, .int .i64 0, .int .i64 0, .int .i64 0, .int .i64 0] 58))) := ((Below.refl _ _).alloc (Nat.le_refl _) _).alloc (by simp) _
  have K0 : Hid (Blk ((w.alloc (.cells #[.int .i64 sh, .int .i64 ca, .slice A nr c, .slice C no d] 37)).alloc (.cells #[.int .i64 0, .int .i64 0, .int .i64 0, .bool false, .int .i64 0, .int .i64 0, .int .i64 0, .int .i64 0, .int .i64 0, .int .i64 0, .int .i64 0] 58)) w.heap.size 37 #[.int .i64 sh, .int .i64 ca, .slice A nr c, .slice C no d]) := (Blk.fresh w _ _).alloc _
  have R0 : Hid (Blk ((w.alloc (.cells #[.int .i64 sh, .int .i64 ca, .slice A nr c, .slice C no d] 37)).alloc (.cells #[.int .i64 0, .int .i64 0, .int .i64 0, .bool false, .int .i64 0, .int .i64 0, .int .i64 0, .int .i64 0, .int .i64 0, .int .i64 0, .int .i64 0] 58)) (w.heap.size + 1) 58 #[.int .i64 0, .int .i64 0, .int .i64 0, .bool false, .int .i64 0, .int .i64 0, .int .i64 0, .int .i64 0, .int .i64 0, .int .i64 0, .int .i64 0]) := blk_hd (by simp)
  go_enter Try.func13, Try.ntmps13
  go_wp2_with fail
  refine (place_any sh ca A C nr no c d op k _ HNO (Rd.below' h.out b0.out b0.out.size) hmax).mono ?_
  rintro r w1 ⟨rfl, hb1⟩
  have HB := Lib.hid (below_step b0.out hb1)
  have K1 : Hid (Blk w1 w.heap.size 37 #[.int .i64 sh, .int .i64 ca, .slice A nr c, .slice C no d]) := Blk.below' K0.out hb1
  have R1 : Hid (Blk w1 (w.heap.size + 1) 58 #[.int .i64 0, .int .i64 0, .int .i64 0, .bool false, .int .i64 0, .int .i64 0, .int .i64 0, .int .i64 0, .int .i64 0, .int .i64 0, .int .i64 0]) := Blk.below' R0.out hb1
  have H1 : Hid (Rd w1 w1.heap.size C (ens op)) := Rd.below' h.out HB.out HB.out.size
  clear hb1 b0 K0 R0 h
  have hgg : w.heap.size ≠ w.heap.size + 1 := by omega
  have hge : Hid (w.heap.size ≤ w.heap.size + 1) := by show _ ≤ _; omega
  generalize w.heap.size + 1 = gR at R1 hgg hge ⊢
  obtain ⟨gM, hgM⟩ : ∃ g, g = w.heap.size := ⟨_, rfl⟩
  have K2 : Hid (Blk w1 gM 37 #[.int .i64 sh, .int .i64 ca, .slice A nr c, .slice C no d]) := by rw [hgM]; exact K1.out
  have hgg2 : gM ≠ gR := by omega
  simp only [← hgM]
  clear hgM K1 hgg
  obtain ⟨k0, k1, k2, k3⟩ := q4_of K2.out
  obtain ⟨z0, z1, z2, z3, z4, z5, z6, z7, z8, z9, z10, f0, f1, f2, f3, f4, f5, f6, f7, f8, f9, f10⟩ := z11_of R1.out
  by_cases hp : posE op k < op.length
  · have hP : Hid (placeF op k = (posE op k : Int)) := placeF_t hp
    obtain ⟨b, o, hA, hb, hcc⟩ := Ens.at H1.out (by omega)
    have hcs := hcc (posE op k) hp
    subst hA
    have hF : Hid (findE op k = gE op (posE op k) ∧ findB op k = true) := ⟨by unfold findE; rw [if_pos hp], by unfold findB; simp [hp]⟩
    have hlt : Hid (posE op k < no) := by show _ < _; rw [HNO.out]; exact hp
    rw [hP.out]
    generalize posE op k = i at hcs hF hlt ⊢
    have hlt' : i < no := hlt.out
    have hne : ((i : Int) == -1) = false := by rw [beq_eq_false_iff_ne]; omega
    clear hcc hp hP H1
    generalize gE op i = E at hcs hF
    obtain ⟨id, ⟨a, s, x, p, q, n, t⟩, lf, st, ep⟩ := E
    obtain ⟨c0, c1, c2, c3, c4, c5, c6, c7, c8, c9, c10⟩ := hcs
    simp only [] at c0 c1 c2 c3 c4 c5 c6 c7 c8 c9 c10
    have f3 : Blk (st11 w1 gR (.int .i64 id) (.int .i64 a) (.int .i64 s) (.bool x) (.int .i64 p) (.int .i64 q) (.int .i64 n) (.int .i64 t) (.int .i64 lf) (.int .i64 st) (.int .i64 ep)) gR 58 #[.int .i64 id, .int .i64 a, .int .i64 s, .bool x, .int .i64 p, .int .i64 q, .int .i64 n, .int .i64 t, .int .i64 lf, .int .i64 st, .int .i64 ep] := st11_blk R1.out
    have hfin : Below w.heap.size w (st11 w1 gR (.int .i64 id) (.int .i64 a) (.int .i64 s) (.bool x) (.int .i64 p) (.int .i64 q) (.int .i64 n) (.int .i64 t) (.int .i64 lf) (.int .i64 st) (.int .i64 ep)) := st11_below HB.out hge.out
    go_wp2_with fail
    obtain ⟨d0, d1, d2, d3, d4, d5, d6, d7, d8, d9, d10⟩ := q11_of f3
    clear f3 R1 K2
    unfold st11 at d0 d1 d2 d3 d4 d5 d6 d7 d8 d9 d10 hfin
    exact bodyPost_ret (v := .tuple #[.agg #[.int .i64 id, .int .i64 a, .int .i64 s, .bool x, .int .i64 p, .int .i64 q, .int .i64 n, .int .i64 t, .int .i64 lf, .int .i64 st, .int .i64 ep], .bool true]) (by simp [results, Try.results13, go_sem, d0, d1, d2, d3, d4, d5, d6, d7, d8, d9, d10]) rfl ⟨by rw [hF.out.1, hF.out.2]; rfl, hfin⟩
  · have hP : Hid (placeF op k = -1) := placeF_f hp
    have hF : Hid (findE op k = en0 ∧ findB op k = false) := ⟨by unfold findE; rw [if_neg hp], by unfold findB; simp [hp]⟩
    rw [hP.out]
    clear hp hP H1
    have f3 : Blk (st11 w1 gR (.int .i64 0) (.int .i64 0) (.int .i64 0) (.bool false) (.int .i64 0) (.int .i64 0) (.int .i64 0) (.int .i64 0) (.int .i64 0) (.int .i64 0) (.int .i64 0)) gR 58 #[.int .i64 0, .int .i64 0, .int .i64 0, .bool false, .int .i64 0, .int .i64 0, .int .i64 0, .int .i64 0, .int .i64 0, .int .i64 0, .int .i64 0] := st11_blk R1.out
    have hfin : Below w.heap.size w (st11 w1 gR (.int .i64 0) (.int .i64 0) (.int .i64 0) (.bool false) (.int .i64 0) (.int .i64 0) (.int .i64 0) (.int .i64 0) (.int .i64 0) (.int .i64 0) (.int .i64 0)) := st11_below HB.out hge.out
    go_wp2_with fail
    obtain ⟨d0, d1, d2, d3, d4, d5, d6, d7, d8, d9, d10⟩ := q11_of f3
    clear f3 R1 K2
    unfold st11 at d0 d1 d2 d3 d4 d5 d6 d7 d8 d9 d10 hfin
    exact bodyPost_ret (v := .tuple #[.agg #[.int .i64 0, .int .i64 0, .int .i64 0, .bool false, .int .i64 0, .int .i64 0, .int .i64 0, .int .i64 0, .int .i64 0, .int .i64 0, .int .i64 0], .bool false]) (by simp [results, Try.results13, go_sem, d0, d1, d2, d3, d4, d5, d6, d7, d8, d9, d10]) rfl ⟨by rw [hF.out.1, hF.out.2]; rfl, hfin⟩
end Go.Proofs.Ytjabfbeioapiaaa.Bkg
