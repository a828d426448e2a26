/- Texts side by side. -/
import Derived.Test.YtaeddnjjeholgaaGreatUgbq
set_option linter.unusedVariables false
set_option linter.unusedSimpArgs false
set_option maxRecDepth 100000
set_option maxHeartbeats 16000000
namespace Go.Proofs.YtaeddnjjeholgaaGreat
open Kap Go.ChangeShapes Go.WideShapes Go.ChangeAt Go.RowKit Go.Lib Mem Tre Cel Bkp Bks Bkj Wpl Hpa Gpl Cfg Crd CrdB CrdC Gex Gpp Gdo Gnw Gcf
namespace Gnv
open Cfl
theorem storeF_t {s : S} {a v : Int} {n : Nat} (h0 : 0 ≤ s.t) (h : s.t ≤ n) (hn : n ≤ 1000) : 0 ≤ (storeF s a v).t ∧ (storeF s a v).t ≤ (n + 1 : Nat) := by
  unfold storeF
  split
  · rw [show wrap64 (s.t + 1) = s.t + 1 from Gsm.w64 (by omega) (by omega)]
    exact ⟨by show 0 ≤ s.t + 1; omega, by show s.t + 1 ≤ _; omega⟩
  · omega
theorem capS_t (nd : List (Int × Int)) (s : S) (h : s.t = 0) : ∀ k : Nat, k ≤ 999 → 0 ≤ (capS nd k s).t ∧ (capS nd k s).t ≤ (k : Nat)
  | 0, _ => by show 0 ≤ s.t ∧ s.t ≤ _; omega
  | k + 1, hk => by
    have ih := capS_t nd s h k (by omega)
    rw [capS_succ]
    exact storeF_t ih.1 ih.2 (by omega)
section
variable {sh wi ra ta : Int} {nd : List (Int × Int)} {ac : List Int} {sy : List (Int × Int × Int × Nat)} {wk : Nat}
theorem new_vs (h : cfgF sh wi ra ta nd ac sy = 0) : Vs (newG sh wi ra ta nd ac sy wk nd.length sh.toNat) := by
  have hk := (cfg_ok h).2.1
  have hl : nd.length ≤ 32 := by
    by_cases e : 32 < nd.length
    · rw [chk, if_pos e] at hk; cases hk
    · omega
  have hs := siz_ok (cfg_ok h).1
  have t := capS_t nd (newS sh nd.length) rfl nd.length (by omega)
  have l := capS_len nd nd.length (newS sh nd.length)
  refine ⟨?_, ?_, t.1, ?_⟩
  · show (capS nd nd.length (newS sh nd.length)).ws.length ≤ 1000
    rw [l.1]; show (List.replicate (1 + 2 * nd.length) (0 : Int)).length ≤ 1000; rw [List.length_replicate]; omega
  · show (capS nd nd.length (newS sh nd.length)).hs.length ≤ 1000
    rw [l.2]; show (List.replicate (2 + sh.toNat + nd.length) (-1 : Int)).length ≤ 1000; rw [List.length_replicate]; omega
  · exact Int.le_trans t.2 (by omega)
theorem new_vc (h : cfgF sh wi ra ta nd ac sy = 0) (hn : WfN nd) (ha : WfI ac) (hsy : WfS sy) : Vc (newG sh wi ra ta nd ac sy wk nd.length sh.toNat) := by
  have hk := (cfg_ok h).2.1
  have hr := rst_begin hk hn
  have hs := siz_ok (cfg_ok h).1
  obtain ⟨-, -, a1, a2, -, s1, s2, -⟩ := cfg_ok h
  have hl := hr.few
  have hb : (newG sh wi ra ta nd ac sy wk nd.length sh.toNat).bs.length = sh.toNat := by simp [newG]
  refine ⟨hs.1, by show sh ≤ 1000; omega, by show ac.length ≤ 1000; omega, by show sy.length ≤ 1000; omega, by show nd.length ≤ 400; omega, hr.one, by rw [hb]; omega, by rw [hb]; omega, hsy, hn, ha, ?_, fun x => Cpl.path_le3 nd 3 x, hr⟩
  intro x k hk
  have := Cpl.path_in (l := nd) 3 (gI ac x.toNat) k hk
  exact ⟨this.1, by have := this.2; show gI (Tre.pathF nd 3 (gI ac x.toNat)) k ≤ 400; omega⟩
end
end Gnv
namespace gateNews
open Mdp Fix3 Ref3 Law3 Fcf Flo Bnd Rr4 Cfr St7 Rul2 Rul5 Rul6 Rul7 Gow Gac Gat Gup Gma Gmz Gsn Gor Gaz Gay Glo Gnb Gto Wto Gnv
theorem rF {n : Nat} {k : Int} (h : k < 0 ∨ (n : Int) ≤ k) : Cel.inR n k = false := by unfold Cel.inR; simp; omega
theorem cells12 {W : World} {g : Nat} {te : TypeId} {m : Wpl.M} (h : Blk W g te (mvs m).toArray) :
    W.cell? ⟨g, 0, none⟩ = some (.int .i64 m.k) ∧ W.cell? ⟨g, 1, none⟩ = some (.int .i64 m.a) ∧ W.cell? ⟨g, 2, none⟩ = some (.int .i64 m.s) ∧ W.cell? ⟨g, 3, none⟩ = some (.bool m.x) ∧ W.cell? ⟨g, 4, none⟩ = some (.int .i64 m.p) ∧ W.cell? ⟨g, 5, none⟩ = some (.int .i64 m.q) ∧ W.cell? ⟨g, 6, none⟩ = some (.int .i64 m.n) ∧ W.cell? ⟨g, 7, none⟩ = some (.int .i64 m.t) ∧ W.cell? ⟨g, 8, none⟩ = some (.int .i64 m.i) ∧ W.cell? ⟨g, 9, none⟩ = some (.int .i64 m.y) ∧ W.cell? ⟨g, 10, none⟩ = some (.int .i64 m.z) ∧ W.cell? ⟨g, 11, none⟩ = some (.int .i64 m.v) := ⟨h.cell 0, h.cell 1, h.cell 2, h.cell 3, h.cell 4, h.cell 5, h.cell 6, h.cell 7, h.cell 8, h.cell 9, h.cell 10, h.cell 11⟩
theorem fldB : ∀ (a b : Int) (X Y : Option Addr) (n m c d : Nat) (W : World), (Instr.field 63 (.agg #[.int .i64 a, .int .i64 b, .slice X n c, .slice Y m d]) 2).run Tryz.prog W = .ok (.slice X n c) W := fun _ _ _ _ _ _ _ _ _ => by kernel_rfl
theorem fldA1 : ∀ (c d : Int) (W : World), (Instr.field 66 (.agg #[.int .i64 c, .int .i64 d]) 1).run Tryz.prog W = .ok (.int .i64 d) W := fun _ _ _ => by kernel_rfl
theorem inner (sh wi ra ta : Int) (A B C : Option Addr) (N M K c d f : Nat) (nd : List (Int × Int)) (ac : List Int) (sy : List (Int × Int × Int × Nat)) (k : Int) (hk : inI k) (m : Wpl.M) (hm : WfM m) (w : World)
    (hN : Hid (N = nd.length)) (hM : Hid (M = ac.length)) (hK : Hid (K = sy.length)) (k1 : (nd.length : Int) ≤ 4611686018427387904) (k2 : (ac.length : Int) ≤ 4611686018427387904) (k3 : (sy.length : Int) ≤ 4398046511104)
    (hl : Hid (Nds w w.heap.size A nd)) (hu : Hid (Ris w w.heap.size B ac)) (hs : Hid (Btb w w.heap.size C sy)) (hw : Hid (WfN nd)) (hwi : Hid (WfI ac)) (hws : Hid (WfS sy)) :
    Calls Tryz.prog 3 #[.agg #[.int .i64 sh, .int .i64 wi, .int .i64 ra, .int .i64 ta, .slice A N c, .slice B M d, .slice C K f], .int .i64 k, .agg (mvs m).toArray] w (MadeV (.bool true) w) := by
  have K3 : (K : Int) ≤ 4398046511104 := by rw [hK.out]; exact k3
  have K1 : (N : Int) ≤ 4611686018427387904 := by rw [hN.out]; exact k1
  have K2 : (M : Int) ≤ 4611686018427387904 := by rw [hM.out]; exact k2
  clear k1 k2 k3
  have b0 : Below w.heap.size w ((w.alloc (.cells #[.int .i64 sh, .int .i64 wi, .int .i64 ra, .int .i64 ta, .slice A N c, .slice B M d, .slice C K f] 26)).alloc (.cells (mvs m).toArray 30)) := ((Below.refl _ _).alloc (Nat.le_refl _) _).alloc (by simp) _
  have RX := ref_any sh wi ra ta A B C c d f N M K nd ac sy ((w.alloc (.cells #[.int .i64 sh, .int .i64 wi, .int .i64 ra, .int .i64 ta, .slice A N c, .slice B M d, .slice C K f] 26)).alloc (.cells (mvs m).toArray 30)) hN hM hK (κ (Rd.below' hl.out b0 b0.size)) (κ (Rd.below' hu.out b0 b0.size)) (κ (Rd.below' hs.out b0 b0.size)) K3
  unfold MadeCf at RX
  rw [← hN.out, ← hM.out, ← hK.out] at RX
  have B0 := κ b0
  clear b0
  have O0 := κ (Blk.fresh (w.alloc (.cells #[.int .i64 sh, .int .i64 wi, .int .i64 ra, .int .i64 ta, .slice A N c, .slice B M d, .slice C K f] 26)) 30 (mvs m).toArray)
  go_enter Tryz.func3, Tryz.ntmps3
  go_wp2_with fail
  refine RX.mono ?_
  rintro e w2 ⟨A2, B2, C2, c2, d2, f2, rfl, n2, u2, s2, hb2⟩
  have b2 := CrdB.below_step B0.out hb2
  have O2 := Blk.below' O0.out hb2
  have U3 : Below w2.heap.size w2 (w2.alloc (.cells #[.int .i64 sh, .int .i64 wi, .int .i64 ra, .int .i64 ta, .slice A2 N c2, .slice B2 M d2, .slice C2 K f2] 33)) := (Below.refl _ _).alloc (Nat.le_refl _) _
  have O3 := κ (Blk.below' O2 U3)
  have V3 : Hid (Blk (w2.alloc (.cells #[.int .i64 sh, .int .i64 wi, .int .i64 ra, .int .i64 ta, .slice A2 N c2, .slice B2 M d2, .slice C2 K f2] 33)) w2.heap.size 33 #[.int .i64 sh, .int .i64 wi, .int .i64 ra, .int .i64 ta, .slice A2 N c2, .slice B2 M d2, .slice C2 K f2]) := Blk.fresh _ _ _
  have B3 : Hid (Below w.heap.size w (w2.alloc (.cells #[.int .i64 sh, .int .i64 wi, .int .i64 ra, .int .i64 ta, .slice A2 N c2, .slice B2 M d2, .slice C2 K f2] 33))) := CrdB.below_step b2 U3
  have N3 : Hid (Nds (w2.alloc (.cells #[.int .i64 sh, .int .i64 wi, .int .i64 ra, .int .i64 ta, .slice A2 N c2, .slice B2 M d2, .slice C2 K f2] 33)) (w2.alloc (.cells #[.int .i64 sh, .int .i64 wi, .int .i64 ra, .int .i64 ta, .slice A2 N c2, .slice B2 M d2, .slice C2 K f2] 33)).heap.size A2 nd) := Rd.below' n2 U3 U3.size
  have R3 : Hid (Ris (w2.alloc (.cells #[.int .i64 sh, .int .i64 wi, .int .i64 ra, .int .i64 ta, .slice A2 N c2, .slice B2 M d2, .slice C2 K f2] 33)) (w2.alloc (.cells #[.int .i64 sh, .int .i64 wi, .int .i64 ra, .int .i64 ta, .slice A2 N c2, .slice B2 M d2, .slice C2 K f2] 33)).heap.size B2 ac) := Rd.below' u2 U3 U3.size
  have S3 : Hid (Smb (w2.alloc (.cells #[.int .i64 sh, .int .i64 wi, .int .i64 ra, .int .i64 ta, .slice A2 N c2, .slice B2 M d2, .slice C2 K f2] 33)) (w2.alloc (.cells #[.int .i64 sh, .int .i64 wi, .int .i64 ra, .int .i64 ta, .slice A2 N c2, .slice B2 M d2, .slice C2 K f2] 33)).heap.size C2 sy) := Rd.below' s2 U3 U3.size
  clear RX B0 hb2 b2 U3 n2 u2 s2 O0 O2
  go_upto_region 2 with fail
  generalize w2.alloc (.cells #[.int .i64 sh, .int .i64 wi, .int .i64 ra, .int .i64 ta, .slice A2 N c2, .slice B2 M d2, .slice C2 K f2] 33) = w3 at V3 B3 N3 R3 S3 O3 ⊢
  generalize w2.heap.size = gC at V3 ⊢
  obtain ⟨e0, e1, e2, e3, e4, e5, e6⟩ := q7_of V3.out
  by_cases h1 : N ≤ 40
  case neg =>
    have t1 : decide ((40 : Int) < (N : Int)) = true := by simp; omega
    go_wp2_with fail
    refine (told11_any _).mono ?_
    rintro e w4 ⟨rfl, hb4⟩
    go_wp2_with fail
    go_ret
    exact ⟨rfl, CrdB.below_step B3.out hb4⟩
  have t1 : decide ((40 : Int) < (N : Int)) = false := by simp only [decide_eq_false_iff_not]; omega
  by_cases h2 : M ≤ 40
  case neg =>
    have t2 : decide ((40 : Int) < (M : Int)) = true := by simp; omega
    go_wp2_with fail
    refine (told11_any _).mono ?_
    rintro e w4 ⟨rfl, hb4⟩
    go_wp2_with fail
    go_ret
    exact ⟨rfl, CrdB.below_step B3.out hb4⟩
  have t2 : decide ((40 : Int) < (M : Int)) = false := by simp only [decide_eq_false_iff_not]; omega
  by_cases h3 : K ≤ 20
  case neg =>
    have t3 : decide ((20 : Int) < (K : Int)) = true := by simp; omega
    go_wp2_with fail
    refine (told11_any _).mono ?_
    rintro e w4 ⟨rfl, hb4⟩
    go_wp2_with fail
    go_ret
    exact ⟨rfl, CrdB.below_step B3.out hb4⟩
  have t3 : decide ((20 : Int) < (K : Int)) = false := by simp only [decide_eq_false_iff_not]; omega
  have TX := to5_any sh wi ra ta A2 B2 C2 c2 d2 f2 nd ac sy w3 N3 R3 S3 hw (by rw [← hN.out]; omega) (by rw [← hM.out]; omega) (by rw [← hK.out]; omega)
  unfold MadeCf at TX
  rw [← hN.out, ← hM.out, ← hK.out] at TX
  obtain ⟨gm, hgm⟩ : ∃ y, y = w.heap.size + 1 := ⟨_, rfl⟩
  rw [show (w.alloc (.cells #[.int .i64 sh, .int .i64 wi, .int .i64 ra, .int .i64 ta, .slice A N c, .slice B M d, .slice C K f] 26)).heap.size = w.heap.size + 1 by simp] at O3
  rw [← hgm] at O3 ⊢
  clear hgm
  go_wp2_with fail
  refine TX.mono ?_
  rintro e w4 ⟨A4, B4, C4, c4, d4, f4, rfl, n4, u4, s4, hb4⟩
  have V4 := κ (Blk.below' V3.out hb4)
  have O4 := κ (Blk.below' O3.out hb4)
  have B4' := κ (CrdB.below_step B3.out hb4)
  have HB4 : Hid (w.heap.size ≤ w4.heap.size) := κ B4'.out.size
  have N4 := κ n4
  have R4 := κ u4
  have S4 := κ s4
  have N4r : Hid (Nds w4 w4.heap.size A2 nd) := Rd.below' N3.out hb4 hb4.size
  have R4r : Hid (Ris w4 w4.heap.size B2 ac) := Rd.below' R3.out hb4 hb4.size
  have S4r : Hid (Smb w4 w4.heap.size C2 sy) := Rd.below' S3.out hb4 hb4.size
  clear TX hb4 n4 u4 s4 e0 e1 e2 e3 e4 e5 e6 V3 B3 N3 R3 S3 O3 t1 t2 t3
  by_cases hbad : k < 1 ∨ 8 < k
  case pos =>
    have NB := κ (new_bad sh wi ra ta A4 B4 C4 N M K c4 d4 f4 k w4 hbad)
    go_wp2_with fail
    refine NB.out.mono ?_
    rintro e w5 ⟨rfl, hb5⟩
    clear NB
    have V5 := κ (Blk.below' V4.out hb5)
    have O5 := κ (Blk.below' O4.out hb5)
    have B5 := κ (CrdB.below_step B4'.out hb5)
    have N5 : Hid (Nds w5 w5.heap.size A2 nd) := Rd.below' N4r.out hb5 hb5.size
    have R5 : Hid (Ris w5 w5.heap.size B2 ac) := Rd.below' R4r.out hb5 hb5.size
    have S5 : Hid (Smb w5 w5.heap.size C2 sy) := Rd.below' S4r.out hb5 hb5.size
    clear hb5 V4 O4 B4' N4 R4 S4 N4r R4r S4r
    go_upto_region 5 with fail
    obtain ⟨e0, e1, e2, e3, e4, e5, e6⟩ := q7_of V5.out
    have KX := rcheck5_any sh wi ra ta A2 B2 C2 c2 d2 f2 nd ac sy w5 N5 R5 S5 hw (by rw [← hN.out]; omega) (by rw [← hM.out]; omega) (by rw [← hK.out]; omega)
    rw [← hN.out, ← hM.out, ← hK.out] at KX
    go_wp2_with fail
    refine KX.mono ?_
    rintro e w6 ⟨rfl, hb6⟩
    have O6 := κ (Blk.below' O5.out hb6)
    have B6 := κ (CrdB.below_step B5.out hb6)
    clear e0 e1 e2 e3 e4 e5 e6 KX hb6 V5 O5 B5 N5 R5 S5
    generalize cfgF sh wi ra ta nd ac sy = cc
    by_cases hk1 : k < 1
    case' pos => have t1 : decide (k < 1) = true := by simp [hk1]
    case' pos => have t2 : True := trivial
    case' neg => have t1 : decide (k < 1) = false := by simp [hk1]
    case' neg => have t2 : decide (k > 8) = true := by simp; omega
    all_goals clear hbad hk1
    all_goals go_upto_region 10 with fail
    all_goals clear t1 t2
    all_goals (
      go_wp2_with fail
      refine (out_nil _).mono ?_
      rintro e _ ⟨rfl, rfl⟩
      go_wp2_with fail
      refine (told11_any _).mono ?_
      rintro e w7 ⟨rfl, hb7⟩
      have O7 := κ (Blk.below' O6.out hb7)
      have B7 := κ (CrdB.below_step B6.out hb7)
      clear hb7 O6 B6
      have kk := cells12 O7.out
      obtain ⟨k0, k1, k2, k3, k4, k5, k6, k7, k8, k9, k10, k11⟩ := kk
      go_wp2_with fail
      refine (to_any m _).mono ?_
      rintro e w8 ⟨rfl, hb8⟩
      have O8 := κ (Blk.below' O7.out hb8)
      have B8 := κ (CrdB.below_step B7.out hb8)
      clear hb8 O7 B7
      clear k0 k1 k2 k3 k4 k5 k6 k7 k8 k9 k10 k11
      go_wp2_with fail
      refine (do_nil 0 m _).mono ?_
      rintro e w9 ⟨rfl, hb9⟩
      have O9 := κ (Blk.below' O8.out hb9)
      have B9 := κ (CrdB.below_step B8.out hb9)
      clear hb9 O8 B8
      go_wp2_with fail
      refine (cells_nil _).mono ?_
      rintro e _ ⟨rfl, rfl⟩
      go_wp2_with fail
      refine (used_nil 0 _).mono ?_
      rintro e _ ⟨rfl, rfl⟩
      go_wp2_with fail
      refine (log_nil _).mono ?_
      rintro e _ ⟨rfl, rfl⟩
      have fb := fldB
      go_wp2_with fail
      refine (book_nil 0 _).mono ?_
      rintro e w10 ⟨rfl, hb10⟩
      have O10 := κ (Blk.below' O9.out hb10)
      have B10 := κ (CrdB.below_step B9.out hb10)
      clear hb10 O9 B9
      go_wp2_with fail
      clear fb
      refine (step_nil _).mono ?_
      rintro e _ ⟨rfl, rfl⟩
      go_wp2_with fail
      refine (over_nil _).mono ?_
      rintro e _ ⟨rfl, rfl⟩
      have fa := fldA1
      go_wp2_with fail
      refine (answer_nil _).mono ?_
      rintro e w11 ⟨rfl, hb11⟩
      have O11 := κ (Blk.below' O10.out hb11)
      have B11 := κ (CrdB.below_step B10.out hb11)
      clear hb11 O10 B10
      go_wp2_with fail
      go_ret
      exact ⟨rfl, B11.out⟩)
  case neg =>
    obtain ⟨wk, rfl⟩ : ∃ n : Nat, k = (n : Int) := ⟨k.toNat, by omega⟩
    have NW := κ (new_any sh wi ra ta A4 B4 C4 N M K c4 d4 f4 wk nd ac sy w4 hN hM hK N4 R4 S4 hw (by omega) (by omega) (by omega) (by omega) (by omega))
    go_wp2_with fail
    refine NW.out.mono ?_
    rintro e w5 ⟨hb5, hne, heq⟩
    clear NW
    have t1 : decide ((wk : Int) < 1) = false := by simp; omega
    have t2 : decide ((wk : Int) > 8) = false := by simp; omega
    obtain ⟨cc, hcc⟩ : ∃ y, y = cfgF sh wi ra ta nd ac sy := ⟨_, rfl⟩
    rw [← hcc] at hne heq
    have HCC := κ hcc
    clear hcc
    by_cases hc0 : cc = 0
    case neg =>
      have he := hne hc0
      subst he
      clear hne heq
      have tz : (cc == 0) = false := by simp [hc0]
      have tn : (cc != 0) = true := by simp [hc0]
      have tc : (cc == cc) = true := by simp
      have HC := κ hc0
      clear hc0
      have V5 := κ (Blk.below' V4.out hb5)
      have O5 := κ (Blk.below' O4.out hb5)
      have B5 := κ (CrdB.below_step B4'.out hb5)
      have N5 : Hid (Nds w5 w5.heap.size A2 nd) := Rd.below' N4r.out hb5 hb5.size
      have R5 : Hid (Ris w5 w5.heap.size B2 ac) := Rd.below' R4r.out hb5 hb5.size
      have S5 : Hid (Smb w5 w5.heap.size C2 sy) := Rd.below' S4r.out hb5 hb5.size
      clear hb5 V4 O4 B4' N4 R4 S4 N4r R4r S4r
      go_upto_region 5 with fail
      obtain ⟨e0, e1, e2, e3, e4, e5, e6⟩ := q7_of V5.out
      have KX := rcheck5_any sh wi ra ta A2 B2 C2 c2 d2 f2 nd ac sy w5 N5 R5 S5 hw (by rw [← hN.out]; omega) (by rw [← hM.out]; omega) (by rw [← hK.out]; omega)
      rw [← hN.out, ← hM.out, ← hK.out] at KX
      rw [← HCC.out] at KX
      clear HCC
      go_wp2_with fail
      refine KX.mono ?_
      rintro e w6 ⟨rfl, hb6⟩
      have O6 := κ (Blk.below' O5.out hb6)
      have B6 := κ (CrdB.below_step B5.out hb6)
      clear e0 e1 e2 e3 e4 e5 e6 KX hb6 V5 O5 B5 N5 R5 S5
      go_upto_region 10 with fail
      clear t1 t2
      go_wp2_with fail
      refine (out_nil _).mono ?_
      rintro e _ ⟨rfl, rfl⟩
      go_wp2_with fail
      refine (told11_any _).mono ?_
      rintro e w7 ⟨rfl, hb7⟩
      have O7 := κ (Blk.below' O6.out hb7)
      have B7 := κ (CrdB.below_step B6.out hb7)
      clear hb7 O6 B6
      have kk := cells12 O7.out
      obtain ⟨k0, k1, k2, k3, k4, k5, k6, k7, k8, k9, k10, k11⟩ := kk
      go_wp2_with fail
      refine (to_any m _).mono ?_
      rintro e w8 ⟨rfl, hb8⟩
      have O8 := κ (Blk.below' O7.out hb8)
      have B8 := κ (CrdB.below_step B7.out hb8)
      clear hb8 O7 B7
      clear k0 k1 k2 k3 k4 k5 k6 k7 k8 k9 k10 k11
      go_wp2_with fail
      refine (do_nil 0 m _).mono ?_
      rintro e w9 ⟨rfl, hb9⟩
      have O9 := κ (Blk.below' O8.out hb9)
      have B9 := κ (CrdB.below_step B8.out hb9)
      clear hb9 O8 B8
      go_wp2_with fail
      refine (cells_nil _).mono ?_
      rintro e _ ⟨rfl, rfl⟩
      go_wp2_with fail
      refine (used_nil 0 _).mono ?_
      rintro e _ ⟨rfl, rfl⟩
      go_wp2_with fail
      refine (log_nil _).mono ?_
      rintro e _ ⟨rfl, rfl⟩
      have fb := fldB
      go_wp2_with fail
      refine (book_nil 0 _).mono ?_
      rintro e w10 ⟨rfl, hb10⟩
      have O10 := κ (Blk.below' O9.out hb10)
      have B10 := κ (CrdB.below_step B9.out hb10)
      clear hb10 O9 B9
      go_wp2_with fail
      clear fb
      refine (step_nil _).mono ?_
      rintro e _ ⟨rfl, rfl⟩
      go_wp2_with fail
      refine (over_nil _).mono ?_
      rintro e _ ⟨rfl, rfl⟩
      have fa := fldA1
      go_wp2_with fail
      refine (answer_nil _).mono ?_
      rintro e w11 ⟨rfl, hb11⟩
      have O11 := κ (Blk.below' O10.out hb11)
      have B11 := κ (CrdB.below_step B10.out hb11)
      clear hb11 O10 B10
      go_wp2_with fail
      go_ret
      exact ⟨rfl, B11.out⟩
    case pos =>
      obtain ⟨ρ, g0, q, he, hG⟩ := heq hc0
      subst he
      have hc := κ (HCC.out ▸ hc0 : cfgF sh wi ra ta nd ac sy = 0)
      clear hne heq
      have V5 := κ (Blk.below' V4.out hb5)
      have O5 := κ (Blk.below' O4.out hb5)
      have B5 := κ (CrdB.below_step B4'.out hb5)
      have N5 : Hid (Nds w5 w5.heap.size A2 nd) := Rd.below' N4r.out hb5 hb5.size
      have R5 : Hid (Ris w5 w5.heap.size B2 ac) := Rd.below' R4r.out hb5 hb5.size
      have S5 : Hid (Smb w5 w5.heap.size C2 sy) := Rd.below' S4r.out hb5 hb5.size
      clear hb5 V4 O4 B4' N4 R4 S4 N4r R4r S4r
      go_upto_region 5 with fail
      obtain ⟨e0, e1, e2, e3, e4, e5, e6⟩ := q7_of V5.out
      have KX := rcheck5_any sh wi ra ta A2 B2 C2 c2 d2 f2 nd ac sy w5 N5 R5 S5 hw (by rw [← hN.out]; omega) (by rw [← hM.out]; omega) (by rw [← hK.out]; omega)
      rw [← hN.out, ← hM.out, ← hK.out] at KX
      rw [hc.out] at KX
      have G5 := κ hG
      have HB5 : Hid (w.heap.size ≤ w4.heap.size) := κ HB4.out
      clear hG hc0 HCC
      go_wp2_with fail
      refine KX.mono ?_
      rintro e w6 ⟨rfl, hb6⟩
      have O6 := κ (Blk.below' O5.out hb6)
      have B6 := κ (CrdB.below_step B5.out hb6)
      have G6 := κ (Gt.ext G5.out hb6)
      clear e0 e1 e2 e3 e4 e5 e6 KX hb6 V5 O5 B5 N5 R5 S5 G5
      go_upto_region 10 with fail
      clear t1 t2
      go_wp2_with fail
      refine (out_nil _).mono ?_
      rintro e _ ⟨rfl, rfl⟩
      go_wp2_with fail
      refine (told11_any _).mono ?_
      rintro e w7 ⟨rfl, hb7⟩
      have O7 := κ (Blk.below' O6.out hb7)
      have B7 := κ (CrdB.below_step B6.out hb7)
      have G7 := κ (Gt.ext G6.out hb7)
      clear hb7 O6 B6 G6
      have kk := cells12 O7.out
      obtain ⟨k0, k1, k2, k3, k4, k5, k6, k7, k8, k9, k10, k11⟩ := kk
      go_wp2_with fail
      refine (to_any m _).mono ?_
      rintro e w8 ⟨rfl, hb8⟩
      have O8 := κ (Blk.below' O7.out hb8)
      have B8 := κ (CrdB.below_step B7.out hb8)
      have G8 := κ (Gt.ext G7.out hb8)
      clear hb8 O7 B7 G7
      clear k0 k1 k2 k3 k4 k5 k6 k7 k8 k9 k10 k11
      go_wp2_with fail
      refine (do_nil 0 m _).mono ?_
      rintro e w9 ⟨rfl, hb9⟩
      have O9 := κ (Blk.below' O8.out hb9)
      have B9 := κ (CrdB.below_step B8.out hb9)
      have G9 := κ (Gt.ext G8.out hb9)
      clear hb9 O8 B8 G8
      go_wp2_with fail
      refine (cells_nil _).mono ?_
      rintro e _ ⟨rfl, rfl⟩
      go_wp2_with fail
      refine (used_nil 0 _).mono ?_
      rintro e _ ⟨rfl, rfl⟩
      go_wp2_with fail
      refine (log_nil _).mono ?_
      rintro e _ ⟨rfl, rfl⟩
      have fb := fldB
      go_wp2_with fail
      refine (book_nil 0 _).mono ?_
      rintro e w10 ⟨rfl, hb10⟩
      have O10 := κ (Blk.below' O9.out hb10)
      have B10 := κ (CrdB.below_step B9.out hb10)
      have G10 := κ (Gt.ext G9.out hb10)
      clear hb10 O9 B9 G9
      go_wp2_with fail
      clear fb
      refine (step_nil _).mono ?_
      rintro e _ ⟨rfl, rfl⟩
      go_wp2_with fail
      refine (over_nil _).mono ?_
      rintro e _ ⟨rfl, rfl⟩
      have fa := fldA1
      go_wp2_with fail
      refine (answer_nil _).mono ?_
      rintro e w11 ⟨rfl, hb11⟩
      have O11 := κ (Blk.below' O10.out hb11)
      have B11 := κ (CrdB.below_step B10.out hb11)
      have G11 := κ (Gt.ext G10.out hb11)
      clear hb11 O10 B10 G10
      have HLP : Hid ((newG sh wi ra ta nd ac sy wk nd.length sh.toNat).lp = List.replicate wk none) := κ rfl
      have HBS : Hid ((newG sh wi ra ta nd ac sy wk nd.length sh.toNat).bs.length = sh.toNat) := κ (by simp [newG])
      have HLG : Hid ((newG sh wi ra ta nd ac sy wk nd.length sh.toNat).log.length ≤ 1000000) := κ (by show 0 ≤ 1000000; decide)
      have HVS := κ (new_vs (wi := wi) (ra := ra) (wk := wk) hc.out)
      have HVC := κ (new_vc (wk := wk) hc.out hw.out hwi.out hws.out)
      generalize newG sh wi ra ta nd ac sy wk nd.length sh.toNat = G at G11 HLP HBS HVS HVC HLG
      have HLL : Hid (G.lp.length = wk) := κ (by rw [HLP.out, List.length_replicate])
      have kk := cells12 O11.out
      obtain ⟨k0, k1, k2, k3, k4, k5, k6, k7, k8, k9, k10, k11⟩ := kk
      go_wp2_with fail
      refine (to_any m _).mono ?_
      rintro e w12 ⟨rfl, hb12⟩
      have O12 := κ (Blk.below' O11.out hb12)
      have B12 := κ (CrdB.below_step B11.out hb12)
      have G12 := κ (Gt.ext G11.out hb12)
      clear hb12 O11 B11 G11
      clear k0 k1 k2 k3 k4 k5 k6 k7 k8 k9 k10 k11
      go_wp2_with fail
      refine (do_out w4.heap.size ρ q g0 (-1) m G w12 G12 (rF (by omega))).mono ?_
      rintro e w13 ⟨rfl, hb13⟩
      have O13 := κ (Blk.below' O12.out hb13)
      have B13 := κ (CrdB.below_step B12.out hb13)
      have G13 := κ (Gt.ext G12.out hb13)
      clear hb13 O12 B12 G12
      have kk := cells12 O13.out
      obtain ⟨k0, k1, k2, k3, k4, k5, k6, k7, k8, k9, k10, k11⟩ := kk
      go_wp2_with fail
      refine (to_any m _).mono ?_
      rintro e w14 ⟨rfl, hb14⟩
      have O14 := κ (Blk.below' O13.out hb14)
      have B14 := κ (CrdB.below_step B13.out hb14)
      have G14 := κ (Gt.ext G13.out hb14)
      clear hb14 O13 B13 G13
      clear k0 k1 k2 k3 k4 k5 k6 k7 k8 k9 k10 k11
      go_wp2_with fail
      refine (do_out w4.heap.size ρ q g0 (wk : Int) m G w14 G14 (rF (by rw [HLL.out]; omega))).mono ?_
      rintro e w15 ⟨rfl, hb15⟩
      have O15 := κ (Blk.below' O14.out hb15)
      have B15 := κ (CrdB.below_step B14.out hb15)
      have G15 := κ (Gt.ext G14.out hb15)
      clear hb15 O14 B14 G14
      have kk := cells12 O15.out
      obtain ⟨k0, k1, k2, k3, k4, k5, k6, k7, k8, k9, k10, k11⟩ := kk
      go_wp2_with fail
      refine (to_any m _).mono ?_
      rintro e w16 ⟨rfl, hb16⟩
      have O16 := κ (Blk.below' O15.out hb16)
      have B16 := κ (CrdB.below_step B15.out hb16)
      have G16 := κ (Gt.ext G15.out hb16)
      clear hb16 O15 B15 G15
      clear k0 k1 k2 k3 k4 k5 k6 k7 k8 k9 k10 k11
      obtain ⟨wm, hwm⟩ : ∃ n : Nat, wk = n + 1 := ⟨wk - 1, by omega⟩
      have tw : (wk : Int) - 1 = (wm : Int) := by rw [hwm]; omega
      have HWM : Hid (wm < G.lp.length) := κ (by rw [HLL.out]; omega)
      have HWX : Hid (G.lp[wm]'HWM.out = none) := κ (by have h := HLP.out; simp [h])
      clear hwm
      have TW := κ tw
      clear tw
      have D3 := κ (do_any w4.heap.size ρ q g0 wm m G w16 G16 HWM.out (x := none) HWX.out (fun W _ => over_nil W) HVS.out HLG.out HVC hm)
      go_wp2_with fail
      rw [TW.out]
      refine D3.out.mono ?_
      rintro e w17 ⟨ga, ρ17, q17, r17, rfl, hga, f17, g17, a17⟩
      have G17 := κ g17
      have B17 := κ (B16.out.trans (f17.below (Nat.le_trans B16.out.size (Nat.le_refl _)) (fun k hk => by rw [G16.out.low k (Nat.lt_of_lt_of_le hk HB5.out)]; decide)))
      clear D3 g17 a17 f17 hga O16 B16 G16
      have fb := fldB
      go_wp2_with fail
      refine (book_out w4.heap.size ρ17 q17 g0 (-1) _ w17 G17 (rF (by omega))).mono ?_
      rintro e w18 ⟨rfl, hb18⟩
      have B18 := κ (CrdB.below_step B17.out hb18)
      go_wp2_with fail
      go_ret
      exact ⟨rfl, B18.out⟩
end gateNews
end Go.Proofs.YtaeddnjjeholgaaGreat
