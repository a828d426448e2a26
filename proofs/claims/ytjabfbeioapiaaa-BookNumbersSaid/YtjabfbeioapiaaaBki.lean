/- Contracts of book's Look and Begin. Condition: the book lies in memory and is not long. -/
import Derived.Test.YtjabfbeioapiaaaBkf
import Derived.Test.YtjabfbeioapiaaaStk
import Derived.Deep.DeepCutAuto
import Derived.Deep.RegionHeld3
namespace Go.Proofs.Ytjabfbeioapiaaa.Bki
set_option maxRecDepth 100000
open Go.ChangeShapes Go.WideShapes Go.ChangeAt Go.RowKit Mem Tre Ref3 Law3 CrdB CrdC Bkp Bks Bkf Stk
set_option linter.unusedVariables false
set_option linter.unusedSimpArgs false
set_option maxHeartbeats 4000000 in
theorem look_any (sk wi ra ta : Int) (A1 A2 A3 : Option Addr) (n1 n2 n3 c1 c2 c3 : Nat) (A C : Option Addr) (nr no c d : Nat) (rl : List Rc) (bk : Bk) (od : Od) (w : World) (sh ca : Int) (hsh : Hid (sh = bk.sh ∧ ca = bk.ca)) (hnr : Hid (nr = bk.rows.length)) (hno : Hid (no = bk.op.length)) (hm : Hid (Bm w A C rl bk)) (hf : Hid (FewB bk)) :
    Calls Try.prog 9 #[.agg #[.int .i64 sk, .int .i64 wi, .int .i64 ra, .int .i64 ta, .slice A1 n1 c1, .slice A2 n2 c2, .slice A3 n3 c3], .agg #[.int .i64 sh, .int .i64 ca, .slice A nr c, .slice C no d], odA od] w (fun r w' => r = .returned (.int .i64 (lookF ra ta bk od)) ∧ Below w.heap.size w w') := by
  obtain ⟨a, s, x, p, q, n, t⟩ := od
  show Calls Try.prog 9 #[.agg #[.int .i64 sk, .int .i64 wi, .int .i64 ra, .int .i64 ta, .slice A1 n1 c1, .slice A2 n2 c2, .slice A3 n3 c3], .agg #[.int .i64 sh, .int .i64 ca, .slice A nr c, .slice C no d], .agg #[.int .i64 a, .int .i64 s, .bool x, .int .i64 p, .int .i64 q, .int .i64 n, .int .i64 t]] w (fun r w' => r = .returned (.int .i64 (lookF ra ta bk ⟨a, s, x, p, q, n, t⟩)) ∧ Below w.heap.size w w')
  have b0 : Hid (Below w.heap.size w (((w.alloc (.cells #[.int .i64 sk, .int .i64 wi, .int .i64 ra, .int .i64 ta, .slice A1 n1 c1, .slice A2 n2 c2, .slice A3 n3 c3] 32)).alloc (.cells #[.int .i64 sh, .int .i64 ca, .slice A nr c, .slice C no d] 37)).alloc (.cells #[.int .i64 a, .int .i64 s, .bool x, .int .i64 p, .int .i64 q, .int .i64 n, .int .i64 t] 41))) := (((Below.refl _ _).alloc (Nat.le_refl _) _).alloc (by simp) _).alloc (by simp <;> omega) _
  have K0 : Hid (Blk (((w.alloc (.cells #[.int .i64 sk, .int .i64 wi, .int .i64 ra, .int .i64 ta, .slice A1 n1 c1, .slice A2 n2 c2, .slice A3 n3 c3] 32)).alloc (.cells #[.int .i64 sh, .int .i64 ca, .slice A nr c, .slice C no d] 37)).alloc (.cells #[.int .i64 a, .int .i64 s, .bool x, .int .i64 p, .int .i64 q, .int .i64 n, .int .i64 t] 41)) w.heap.size 32 #[.int .i64 sk, .int .i64 wi, .int .i64 ra, .int .i64 ta, .slice A1 n1 c1, .slice A2 n2 c2, .slice A3 n3 c3]) := ((Blk.fresh w _ _).alloc _).alloc _
  have K1 : Hid (Blk (((w.alloc (.cells #[.int .i64 sk, .int .i64 wi, .int .i64 ra, .int .i64 ta, .slice A1 n1 c1, .slice A2 n2 c2, .slice A3 n3 c3] 32)).alloc (.cells #[.int .i64 sh, .int .i64 ca, .slice A nr c, .slice C no d] 37)).alloc (.cells #[.int .i64 a, .int .i64 s, .bool x, .int .i64 p, .int .i64 q, .int .i64 n, .int .i64 t] 41)) (w.heap.size + 1) 37 #[.int .i64 sh, .int .i64 ca, .slice A nr c, .slice C no d]) := Blk.alloc (blk_hd (by simp)) _
  have K2 : Hid (Blk (((w.alloc (.cells #[.int .i64 sk, .int .i64 wi, .int .i64 ra, .int .i64 ta, .slice A1 n1 c1, .slice A2 n2 c2, .slice A3 n3 c3] 32)).alloc (.cells #[.int .i64 sh, .int .i64 ca, .slice A nr c, .slice C no d] 37)).alloc (.cells #[.int .i64 a, .int .i64 s, .bool x, .int .i64 p, .int .i64 q, .int .i64 n, .int .i64 t] 41)) (w.heap.size + 2) 41 #[.int .i64 a, .int .i64 s, .bool x, .int .i64 p, .int .i64 q, .int .i64 n, .int .i64 t]) := blk_hd (by simp)
  have HM := Lib.hid (hm.out.below b0.out)
  go_enter Try.func9, Try.ntmps9
  go_upto_region 1 with fail
  clear hm
  generalize (((w.alloc (.cells #[.int .i64 sk, .int .i64 wi, .int .i64 ra, .int .i64 ta, .slice A1 n1 c1, .slice A2 n2 c2, .slice A3 n3 c3] 32)).alloc (.cells #[.int .i64 sh, .int .i64 ca, .slice A nr c, .slice C no d] 37)).alloc (.cells #[.int .i64 a, .int .i64 s, .bool x, .int .i64 p, .int .i64 q, .int .i64 n, .int .i64 t] 41)) = w0 at b0 K0 K1 K2 HM ⊢
  obtain ⟨gCf, hgCf⟩ : ∃ g, g = w.heap.size := ⟨_, rfl⟩
  obtain ⟨gB, hgB⟩ : ∃ g, g = w.heap.size + 1 := ⟨_, rfl⟩
  obtain ⟨gO, hgO⟩ : ∃ g, g = w.heap.size + 2 := ⟨_, rfl⟩
  have J0 : Hid (Blk w0 gCf 32 #[.int .i64 sk, .int .i64 wi, .int .i64 ra, .int .i64 ta, .slice A1 n1 c1, .slice A2 n2 c2, .slice A3 n3 c3]) := by rw [hgCf]; exact K0.out
  have J1 : Hid (Blk w0 gB 37 #[.int .i64 sh, .int .i64 ca, .slice A nr c, .slice C no d]) := by rw [hgB]; exact K1.out
  have J2 : Hid (Blk w0 gO 41 #[.int .i64 a, .int .i64 s, .bool x, .int .i64 p, .int .i64 q, .int .i64 n, .int .i64 t]) := by rw [hgO]; exact K2.out
  simp only [← hgO]
  simp only [← hgB]
  simp only [← hgCf]
  clear hgCf hgB hgO K0 K1 K2
  obtain ⟨e0, e1, e2, e3, e4, e5, e6⟩ := q7_of J0.out
  obtain ⟨k0, k1, k2, k3⟩ := q4_of J1.out
  obtain ⟨o0, o1, o2, o3, o4, o5, o6⟩ := q7_of J2.out
  go_wp2_with fail
  refine (hasR_any A nr c a _).mono ?_
  by_cases hin : inQ nr a = true
  case neg =>
    have hfin : Hid (lookF ra ta bk ⟨a, s, x, p, q, n, t⟩ = 3) := by
      show _ = _
      unfold lookF
      rw [← hnr.out]
      simp only [] at hin ⊢
      rw [if_neg hin]
    have hin' : inQ nr a = false := by simpa using hin
    rw [hin']
    clear hin hin'
    rintro e w1 ⟨rfl, rfl⟩
    go_wp2_with fail
    go_ret
    exact ⟨congrArg Ending.returned (congrArg (Value.int .i64) hfin.out.symm), b0.out⟩
  case pos =>
    have hia := inQ_of hin
    obtain ⟨i, hi⟩ : ∃ i : Nat, a = i := ⟨a.toNat, by omega⟩
    subst hi
    have hlt : i < nr := by omega
    have HIN := Lib.hid hin
    rw [hin]
    clear hin hia
    rintro e w1 ⟨rfl, rfl⟩
    have hlr : Hid (i < rl.length) := by show _ < _; rw [HM.out.len, ← hnr.out]; exact hlt
    obtain ⟨b, o, hA, hb, hcc⟩ := Rcs.at HM.out.r (by have := hlr.out; omega)
    have hcs := hcc i hlr.out
    have HR := Lib.hid (gC_row HM.out.e hlr.out)
    have HN := Lib.hid (HM.out.n i hlr.out)
    have HL := Lib.hid (hf.out.nl i (by rw [← hnr.out]; exact hlt))
    subst hA
    have HLK : Hid (lookF ra ta bk ⟨(i : Int), s, x, p, q, n, t⟩ = (if (gR bk.rows i).ns.contains n = true then 9
     else if t < (gR bk.rows i).sec then 10
     else if t = (gR bk.rows i).sec ∧ ra ≤ (gR bk.rows i).cnt then 10
     else if ta ≤ bk.op.length then 11 else 0)) := by
      show _ = _
      unfold lookF
      rw [← hnr.out]
      simp only []
      rw [if_pos HIN.out, Int.toNat_natCast]
    rw [← HR.out] at HLK HL
    rw [← hno.out] at HLK
    clear hcc HIN HR HM
    generalize gC rl i = R at hcs HN HL HLK
    obtain ⟨An, cn, ns, sec, cnt⟩ := R
    obtain ⟨r0, r1, r2⟩ := hcs
    simp only [] at r0 r1 r2 HN HL HLK
    obtain ⟨nn, hnn⟩ : ∃ nn, nn = ns.length := ⟨_, rfl⟩
    rw [← hnn] at r0 HL
    have HNN := Lib.hid hnn
    clear hnn
    have bA : Hid (Below w.heap.size w (w1.alloc (.cells #[.slice An nn cn, .int .i64 sec, .int .i64 cnt] 68))) := b0.out.alloc b0.out.size _
    have KA : Hid (Blk (w1.alloc (.cells #[.slice An nn cn, .int .i64 sec, .int .i64 cnt] 68)) w1.heap.size 68 #[.slice An nn cn, .int .i64 sec, .int .i64 cnt]) := Blk.fresh _ _ _
    have U0 : Below w1.heap.size w1 (w1.alloc (.cells #[.slice An nn cn, .int .i64 sec, .int .i64 cnt] 68)) := (Below.refl _ _).alloc (Nat.le_refl _) _
    have L0 : Hid (Blk (w1.alloc (.cells #[.slice An nn cn, .int .i64 sec, .int .i64 cnt] 68)) gCf 32 #[.int .i64 sk, .int .i64 wi, .int .i64 ra, .int .i64 ta, .slice A1 n1 c1, .slice A2 n2 c2, .slice A3 n3 c3]) := Blk.below' J0.out U0
    have L1 : Hid (Blk (w1.alloc (.cells #[.slice An nn cn, .int .i64 sec, .int .i64 cnt] 68)) gB 37 #[.int .i64 sh, .int .i64 ca, .slice (some ⟨b, o, none⟩) nr c, .slice C no d]) := Blk.below' J1.out U0
    have L2 : Hid (Blk (w1.alloc (.cells #[.slice An nn cn, .int .i64 sec, .int .i64 cnt] 68)) gO 41 #[.int .i64 (i : Int), .int .i64 s, .bool x, .int .i64 p, .int .i64 q, .int .i64 n, .int .i64 t]) := Blk.below' J2.out U0
    have HNA : Hid (Ris (w1.alloc (.cells #[.slice An nn cn, .int .i64 sec, .int .i64 cnt] 68)) (w1.alloc (.cells #[.slice An nn cn, .int .i64 sec, .int .i64 cnt] 68)).heap.size An ns) := Rd.below' HN.out U0 U0.size
    go_upto_region 4 with fail
    clear U0 J0 J1 J2 HN e0 e1 e2 e3 e4 e5 e6 k0 k1 k2 k3 o0 o1 o2 o3 o4 o5 o6 b0
    generalize w1.alloc (.cells #[.slice An nn cn, .int .i64 sec, .int .i64 cnt] 68) = w2 at bA KA L0 L1 L2 HNA ⊢
    generalize w1.heap.size = gR' at KA ⊢
    obtain ⟨e0, e1, e2, e3, e4, e5, e6⟩ := q7_of L0.out
    obtain ⟨k0, k1, k2, k3⟩ := q4_of L1.out
    obtain ⟨o0, o1, o2, o3, o4, o5, o6⟩ := q7_of L2.out
    obtain ⟨m0, m1, m2⟩ := q3_of KA.out
    go_wp2_with fail
    refine (contains_any An nn cn ns n _ HNN HNA (by have := HL.out; omega)).mono ?_
    by_cases c1 : ns.contains n = true
    · rw [c1]
      have hfin : Hid (lookF ra ta bk ⟨(i : Int), s, x, p, q, n, t⟩ = 9) := by show _ = _; rw [HLK.out, if_pos c1]
      clear c1
      rintro e w3 ⟨rfl, rfl⟩
      go_wp2_with fail
      go_ret
      exact ⟨congrArg Ending.returned (congrArg (Value.int .i64) hfin.out.symm), bA.out⟩
    · have c1' : ns.contains n = false := by simpa using c1
      rw [c1']
      have HL2 : Hid (lookF ra ta bk ⟨(i : Int), s, x, p, q, n, t⟩ = (if t < sec then 10 else if t = sec ∧ ra ≤ cnt then 10 else if ta ≤ (no : Int) then 11 else 0)) := by show _ = _; rw [HLK.out, if_neg c1]
      clear c1 c1' HLK
      rintro e w3 ⟨rfl, rfl⟩
      by_cases c2 : t < sec
      · have t2 : decide (t < sec) = true := by simp [c2]
        have hfin : Hid (lookF ra ta bk ⟨(i : Int), s, x, p, q, n, t⟩ = 10) := by show _ = _; rw [HL2.out, if_pos c2]
        go_wp2_with fail
        go_ret
        exact ⟨congrArg Ending.returned (congrArg (Value.int .i64) hfin.out.symm), bA.out⟩
      · have t2 : decide (t < sec) = false := by simp [c2]
        by_cases c3 : t = sec
        · have t3 : (t == sec) = true := by simp [c3]
          by_cases c4 : ra ≤ cnt
          · have t4 : decide (ra ≤ cnt) = true := by simp [c4]
            have hfin : Hid (lookF ra ta bk ⟨(i : Int), s, x, p, q, n, t⟩ = 10) := by show _ = _; rw [HL2.out, if_neg c2, if_pos ⟨c3, c4⟩]
            clear c3
            go_wp2_with fail
            go_ret
            exact ⟨congrArg Ending.returned (congrArg (Value.int .i64) hfin.out.symm), bA.out⟩
          · have t4 : decide (ra ≤ cnt) = false := by simp [c4]
            by_cases c5 : ta ≤ (no : Int)
            · have t5 : decide (ta ≤ (no : Int)) = true := by simp [c5]
              have hfin : Hid (lookF ra ta bk ⟨(i : Int), s, x, p, q, n, t⟩ = 11) := by show _ = _; rw [HL2.out, if_neg c2, if_neg (fun h => c4 h.2), if_pos c5]
              clear c3
              go_wp2_with fail
              go_ret
              exact ⟨congrArg Ending.returned (congrArg (Value.int .i64) hfin.out.symm), bA.out⟩
            · have t5 : decide (ta ≤ (no : Int)) = false := by simp [c5]
              have hfin : Hid (lookF ra ta bk ⟨(i : Int), s, x, p, q, n, t⟩ = 0) := by show _ = _; rw [HL2.out, if_neg c2, if_neg (fun h => c4 h.2), if_neg c5]
              clear c3
              go_wp2_with fail
              go_ret
              exact ⟨congrArg Ending.returned (congrArg (Value.int .i64) hfin.out.symm), bA.out⟩
        · have t3 : (t == sec) = false := by simp [c3]
          by_cases c5 : ta ≤ (no : Int)
          · have t5 : decide (ta ≤ (no : Int)) = true := by simp [c5]
            have hfin : Hid (lookF ra ta bk ⟨(i : Int), s, x, p, q, n, t⟩ = 11) := by show _ = _; rw [HL2.out, if_neg c2, if_neg (fun h => c3 h.1), if_pos c5]
            go_wp2_with fail
            go_ret
            exact ⟨congrArg Ending.returned (congrArg (Value.int .i64) hfin.out.symm), bA.out⟩
          · have t5 : decide (ta ≤ (no : Int)) = false := by simp [c5]
            have hfin : Hid (lookF ra ta bk ⟨(i : Int), s, x, p, q, n, t⟩ = 0) := by show _ = _; rw [HL2.out, if_neg c2, if_neg (fun h => c3 h.1), if_neg c5]
            go_wp2_with fail
            go_ret
            exact ⟨congrArg Ending.returned (congrArg (Value.int .i64) hfin.out.symm), bA.out⟩
end Go.Proofs.Ytjabfbeioapiaaa.Bki
