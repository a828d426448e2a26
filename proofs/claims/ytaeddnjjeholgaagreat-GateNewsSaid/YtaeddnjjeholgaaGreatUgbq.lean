/- Texts side by side. -/
import Derived.Test.YtaeddnjjeholgaaGreatUgbp
import Derived.Test.YtaeddnjjeholgaaGreatUgbt
import Derived.Test.YtaeddnjjeholgaaGreatUgbu
set_option linter.unusedVariables false
set_option linter.unusedSimpArgs false
set_option maxRecDepth 100000
set_option maxHeartbeats 16000000
namespace Go.Proofs.YtaeddnjjeholgaaGreat
open Go.ChangeShapes Go.WideShapes Go.ChangeAt Go.RowKit Go.Lib Mem Cel Bkp Bks Bkj Wpl Hpa Gpl Gex Gpp Gor Gdo Gnw Gtp Tre
namespace Gvc
theorem path1 (c : Int) (x : Int) : Tre.pathF [(-1, c)] 3 x = [] ∨ Tre.pathF [(-1, c)] 3 x = [0] := by
  by_cases h : x = 0
  · subst h; exact .inr (by kernel_rfl)
  · refine .inl ?_
    have e : Tre.inR 1 x = false := by
      cases e : Tre.inR 1 x with
      | false => rfl
      | true => exact absurd (Tre.inR_of e) (by omega)
    exact pathF_out e
theorem wsE : Cfg.WfS syE := fun i hi => by
  have h : i = 0 := by have : i < 1 := hi; omega
  subst h
  exact ⟨⟨by decide, by decide⟩, ⟨by decide, by decide⟩, ⟨by decide, by decide⟩, by decide⟩
theorem vcS (b : Bk) (ws hs : List Int) (t : Int) (log : List He) (out : List (Int × Int)) (at' : List Int) (lp : List (Option Nat)) : Vc (gS b ws hs t log out at' lp) := by
  refine ⟨by show (1:Int) ≤ 1; decide, by show (1:Int) ≤ 1000; decide, by show 1 ≤ 1000; decide, by show 1 ≤ 1000; decide, by show 1 ≤ 400; decide, by show 1 ≤ 1; decide, by show 1 ≤ 1; decide, by show 1 ≤ 1000; decide, ?_, gsE.wf, ?_, ?_, ?_, Cfl.GoodSt.rs gsE⟩
  · exact wsE
  · intro i hi
    have h : i = 0 := by have : i < 1 := hi; omega
    subst h
    exact ⟨by show (-9223372036854775808:Int) ≤ 0; decide, by show (0:Int) ≤ 9223372036854775807; decide⟩
  · intro x k hk
    have e : (purseF (gS b ws hs t log out at' lp) x).path = [] ∨ (purseF (gS b ws hs t log out at' lp) x).path = [0] := path1 1000 _
    rcases e with e | e
    · rw [e] at hk; cases hk
    · rw [e] at hk ⊢
      have h : k = 0 := by have : k < 1 := hk; omega
      subst h
      exact ⟨by decide, by decide⟩
  · intro x
    rcases path1 1000 x with e | e
    · show (Tre.pathF [(-1, 1000)] 3 x).length ≤ 3; rw [e]; decide
    · show (Tre.pathF [(-1, 1000)] 3 x).length ≤ 3; rw [e]; decide
end Gvc
namespace Gto
open Kap Mdp Cfg Fix3 Fcf Flo Bnd Rr4 St7 Rul6 Rul7 Gow Gac Gat Gup Gma Gmz Gsn Gaz Gay Glo Gcf Gx5 Gx8 Gx9 Gxa Gxc Gfi Gfg Gvc
open Cn (ToldV toldV_mk)
theorem eN : fixF [] = ndE := by decide +kernel
theorem eA : fixA (fixF []).length [] = [0] := by decide +kernel
theorem eS : fixS [] = syE := by decide +kernel
theorem i0 : inI 0 := ⟨by decide, by decide⟩
theorem i2 : inI 2 := ⟨by decide, by decide⟩
theorem i4 : inI 4 := ⟨by decide, by decide⟩
theorem i10 : inI 10 := ⟨by decide, by decide⟩
theorem wfO (n : Int) (hn : inI n) : WfM (mO n) := ⟨i0, i0, i0, i10, i2, hn, i0, i0, i0, i0, i0⟩
theorem wfK : WfM mK := ⟨i4, i0, i0, i0, i0, i0, i0, i0, i0, i0, i0⟩
theorem fldA (c d : Int) : ∀ W, (Instr.field 66 (.agg #[.int .i64 c, .int .i64 d]) 0).run Tryz.prog W = .ok (.int .i64 c) W := fun W => by kernel_rfl
theorem cfE : cfgF 1 0 1 1 ndE [0] syE = 0 := by kernel_rfl
theorem wnE : WfN ndE := gsE.wf
theorem told11_any (w : World) : Calls Tryz.prog 7 #[] w (MadeV (.bool true) w) := by
  have q1 : 1 + modF 0 3 = 1 := by decide +kernel
  have q2 : modF 0 4 = 0 := by decide +kernel
  have q3 : 1 + modF 0 6 = 1 := by decide +kernel
  have q4 : 1 + modF 0 8 = 1 := by decide +kernel
  have FX := fun W => fix5_any 0 0 0 0 none none none 0 0 0 [] [] [] W Rd.nil Rd.nil Rd.nil (fun i hi => by simp at hi) (fun i hi => by simp at hi) (fun i hi => by simp at hi) (by decide) (by decide) (by decide)
  rw [eA, eN, eS, q1, q2, q3, q4] at FX
  clear q1 q2 q3 q4
  have TX := fun W A B C c d f h1 h2 h3 => to5_any 1 0 1 1 A B C c d f ndE [0] syE W h1 h2 h3 wnE (by decide) (by decide) (by decide)
  unfold MadeCf at FX TX
  rw [show ndE.length = 1 from rfl, show [(0 : Int)].length = 1 from rfl, show syE.length = 1 from rfl] at FX TX
  go_enter Tryz.func7, Tryz.ntmps7
  go_wp2_with fail
  refine (FX _).mono ?_
  rintro e w1 ⟨A1, B1, C1, c1, d1, f1, rfl, hn1, hu1, hs1, hb1⟩
  have b1 := κ hb1
  clear hb1 FX
  go_wp2_with fail
  refine (TX _ _ _ _ _ _ _ hn1 hu1 hs1).mono ?_
  rintro e w2 ⟨A2, B2, C2, c2, d2, f2, rfl, hn2, hu2, hs2, hb2⟩
  have b2 := CrdB.below_step b1.out hb2
  have U2 := β w2 (.cells #[.int .i64 1, .int .i64 0, .int .i64 1, .int .i64 1, .slice A2 1 c2, .slice B2 1 d2, .slice C2 1 f2] 43)
  have v2 := κ (Blk.fresh w2 43 #[.int .i64 1, .int .i64 0, .int .i64 1, .int .i64 1, .slice A2 1 c2, .slice B2 1 d2, .slice C2 1 f2])
  have b3 := κ (CrdB.below_step b2 U2)
  have N3 : Hid (Nds (w2.alloc (.cells #[.int .i64 1, .int .i64 0, .int .i64 1, .int .i64 1, .slice A2 1 c2, .slice B2 1 d2, .slice C2 1 f2] 43)) (w2.alloc (.cells #[.int .i64 1, .int .i64 0, .int .i64 1, .int .i64 1, .slice A2 1 c2, .slice B2 1 d2, .slice C2 1 f2] 43)).heap.size A2 ndE) := κ (Rd.below' hn2 U2 U2.size)
  have R3 : Hid (Ris (w2.alloc (.cells #[.int .i64 1, .int .i64 0, .int .i64 1, .int .i64 1, .slice A2 1 c2, .slice B2 1 d2, .slice C2 1 f2] 43)) (w2.alloc (.cells #[.int .i64 1, .int .i64 0, .int .i64 1, .int .i64 1, .slice A2 1 c2, .slice B2 1 d2, .slice C2 1 f2] 43)).heap.size B2 [0]) := κ (Rd.below' hu2 U2 U2.size)
  have S3 : Hid (Smb (w2.alloc (.cells #[.int .i64 1, .int .i64 0, .int .i64 1, .int .i64 1, .slice A2 1 c2, .slice B2 1 d2, .slice C2 1 f2] 43)) (w2.alloc (.cells #[.int .i64 1, .int .i64 0, .int .i64 1, .int .i64 1, .slice A2 1 c2, .slice B2 1 d2, .slice C2 1 f2] 43)).heap.size C2 syE) := κ (Rd.below' hs2 U2 U2.size)
  clear hn2 hu2 hs2 U2 b2 hn1 hu1 hs1 hb2 TX b1
  go_upto_region 2 with fail
  generalize w2.alloc (.cells #[.int .i64 1, .int .i64 0, .int .i64 1, .int .i64 1, .slice A2 1 c2, .slice B2 1 d2, .slice C2 1 f2] 43) = w3 at b3 v2 N3 R3 S3 ⊢
  generalize w2.heap.size = gK at v2 ⊢
  obtain ⟨e0, e1, e2, e3, e4, e5, e6⟩ := q7_of v2.out
  go_wp2_with fail
  refine (new_any 1 0 1 1 A2 B2 C2 1 1 1 c2 d2 f2 2 ndE [0] syE w3 (κ rfl) (κ rfl) (κ rfl) N3 R3 S3 (κ wnE) (by decide) (by decide) (by decide) (by decide) (by decide)).mono ?_
  rintro e w4 ⟨hb4, _, hmk⟩
  obtain ⟨ρ, g0, q, rfl, hG⟩ := hmk cfE
  rw [show newG 1 0 1 1 ndE [0] syE 2 ndE.length (1 : Int).toNat = newG 1 0 1 1 ndE [0] syE 2 1 1 from rfl, new_eq] at hG
  have B4 := κ (CrdB.below_step b3.out hb4)
  have HBS : Hid (w.heap.size ≤ w3.heap.size) := κ b3.out.size
  have G4 := κ hG
  clear e0 e1 e2 e3 e4 e5 e6 hb4 hmk hG N3 R3 S3 v2 b3
  generalize hbs : w3.heap.size = base at G4 HBS
  clear hbs
  go_wp2_with fail
  refine (bound_any _).mono ?_
  rintro e _ ⟨rfl, rfl⟩
  go_upto_region 5 with fail
  go_wp2_with fail
  refine (Rul3.order_any 0 0 false 10 2 0 0 _).mono ?_
  rintro e w5 ⟨rfl, hb5⟩
  have U5 := β w5 (.cells #[.int .i64 0, .int .i64 0, .int .i64 0, .bool false, .int .i64 10, .int .i64 2, .int .i64 0, .int .i64 0, .int .i64 0, .int .i64 0, .int .i64 0, .int .i64 0] 53)
  have U5' := CrdB.below_step hb5 U5
  have O5 := κ (Blk.fresh w5 53 #[.int .i64 0, .int .i64 0, .int .i64 0, .bool false, .int .i64 10, .int .i64 2, .int .i64 0, .int .i64 0, .int .i64 0, .int .i64 0, .int .i64 0, .int .i64 0])
  have B5 := κ (CrdB.below_step B4.out U5')
  have G4' := Gt.ext G4.out hb5
  have fP : Fs No ρ w5 (put ρ w5.heap.size (w5.heap.size + 8)) (w5.alloc (.cells #[.int .i64 0, .int .i64 0, .int .i64 0, .bool false, .int .i64 10, .int .i64 2, .int .i64 0, .int .i64 0, .int .i64 0, .int .i64 0, .int .i64 0, .int .i64 0] 53)) := Fs.put (β _ _) (Nat.le_refl _) _ (by simp)
  have G5 := κ (Gt.fs G4' fP (fun k hk => by simp at hk; rw [put_ne (by omega)]; exact G4'.new k (by omega)) (fun _ _ h => h))
  have Z5 : Hid (put ρ w5.heap.size (w5.heap.size + 8) w5.heap.size = w5.heap.size + 8) := κ put_at
  clear G4' fP
  generalize put ρ w5.heap.size (w5.heap.size + 8) = ρ at G5 Z5
  clear hb5 U5 U5' B4 G4
  go_upto_region 6 with fail
  generalize w5.alloc (.cells #[.int .i64 0, .int .i64 0, .int .i64 0, .bool false, .int .i64 10, .int .i64 2, .int .i64 0, .int .i64 0, .int .i64 0, .int .i64 0, .int .i64 0, .int .i64 0] 53) = w6 at O5 B5 G5 ⊢
  generalize w5.heap.size = gO at O5 Z5 ⊢
  have k0 := O5.out.cell 0
  have k1 := O5.out.cell 1
  have k2 := O5.out.cell 2
  have k3 := O5.out.cell 3
  have k4 := O5.out.cell 4
  have k5 := O5.out.cell 5
  have k6 := O5.out.cell 6
  have k7 := O5.out.cell 7
  have k8 := O5.out.cell 8
  have k9 := O5.out.cell 9
  have k10 := O5.out.cell 10
  have k11 := O5.out.cell 11
  simp at k0 k1 k2 k3 k4 k5 k6 k7 k8 k9 k10 k11
  have DO := do_any base ρ q g0 1 (mO 0) _ w6 G5 (by decide) (x := none) rfl (fun W _ => over_nil W) (vsS (by decide) (by decide) (by decide) (by decide)) (by decide) (κ (vcS _ _ _ _ _ _ _ _)) (wfO 0 i0)
  have DO := κ DO
  go_wp2_with fail
  refine DO.out.mono ?_
  rintro e w7 ⟨ga, ρ7, q7, r7, rfl, hga, f7, g7, a7⟩
  have G7 : Hid (Gt base ρ7 w7 g0 q7 (gS b0 [0, 0, 1000] [-1, -1, -1, -1] 1 [⟨1, 1, 0, 0, mO 0, false, 0, 0, 0, 0⟩] [] [] [none, some ga])) := κ g7
  rw [show planA (gS b0 [0, 0, 1000] [-1, -1, -1, -1] 1 [] [] [] [none, none]) (act0 ((1 : Nat) : Int) ((gS b0 [0, 0, 1000] [-1, -1, -1, -1] 1 [] [] [] [none, none]).log.length : Int)) (mO 0) = _ from plan1] at a7
  have A7 := κ a7
  have GA : Hid (gO ≠ ga) := κ (by have := O5.out.lt; omega)
  have O7 := κ (f7.blk O5.out (by rw [Z5.out]; omega))
  have Z7 : Hid (ρ7 gO = gO + 8) := κ (f7.keep O5.out.lt Z5.out)
  have B7 := κ (B5.out.trans (f7.below (Nat.le_trans B5.out.size (Nat.le_refl _)) (fun k hk => by rw [G5.out.low k (Nat.lt_of_lt_of_le hk HBS.out)]; decide)))
  clear DO g7 a7 f7 hga k0 k1 k2 k3 k4 k5 k6 k7 k8 k9 k10 k11 O5 Z5 B5 G5
  go_upto_region 7 with fail
  have FI := κ (finish_any base ρ7 q7 r7 g0 ga 9 _ _ _ _ w7 G7 A7 (r1 [none, some ga]) (by decide) rfl)
  go_wp2_with fail
  refine FI.out.mono ?_
  rintro e w8 ⟨rfl, ρ8, q8, r8, f8, g8, a8, _⟩
  have G8 := κ g8
  have A8 := κ a8
  have O8 := κ (f8.blk O7.out (by rw [Z7.out]; have := GA.out; unfold CC; omega))
  have Z8 : Hid (ρ8 gO = gO + 8) := κ (f8.keep O7.out.lt Z7.out)
  have B8 := κ (B7.out.trans (f8.below (Nat.le_trans B7.out.size (Nat.le_refl _)) (fun k hk => by rw [G7.out.low k (Nat.lt_of_lt_of_le hk HBS.out)]; exact CC.n0)))
  have AN := κ (answer_any ρ8 g0 ga r8 _ w8 A8 rfl)
  clear FI f8 g8 a8 G7 A7 O7 Z7 B7
  go_wp2_with fail
  refine AN.out.mono ?_
  rintro e w9 ⟨rfl, hb9⟩
  have G9 := κ (Gt.ext G8.out hb9)
  have O9 := κ (Blk.below' O8.out hb9)
  have B9 := κ (CrdB.below_step B8.out hb9)
  have US := κ (used_any base ρ8 q8 g0 0 _ w9 G9 (vsS (by decide) (by decide) (by decide) (by decide)) (by show 0 < 1; decide) (by decide))
  have fld := fldA 0 0
  have A9 := κ (Ac.ext A8.out hb9)
  clear AN hb9 A8 O8 B8 G8
  go_wp2_with fail
  refine US.out.mono ?_
  rintro e w10 ⟨rfl, hb10⟩
  have G10 := κ (Gt.ext G9.out hb10)
  have O10 := κ (Blk.below' O9.out hb10)
  have B10 := κ (CrdB.below_step B9.out hb10)
  have A10 := κ (Ac.ext A9.out hb10)
  clear US hb10 G9 O9 B9 A9 fld
  have DK := κ (do_any base ρ8 q8 g0 0 mK _ w10 G10 (by show 0 < 2; decide) (x := none) rfl (fun W _ => over_nil W) (vsS (by decide) (by decide) (by decide) (by decide)) (by show 1 ≤ 1000000; decide) (κ (vcS _ _ _ _ _ _ _ _)) wfK)
  go_wp2_with fail
  refine DK.out.mono ?_
  rintro e w11 ⟨gk, ρ11, q11, r11, rfl, hgk, f11, g11, a11⟩
  have G11 : Hid (Gt base ρ11 w11 g0 q11 (gS b1 [0, 20, 1000] [-1, -1, -1, -1] 11 [⟨1, 1, 6, 11, mO 0, false, 0, 0, 0, 0⟩, ⟨0, 11, 0, 0, mK, false, 0, 0, 0, 0⟩] [(0, 0)] [9] [some gk, some ga])) := κ g11
  rw [show planA (gS b1 [0, 20, 1000] [-1, -1, -1, -1] 11 [⟨1, 1, 6, 11, mO 0, false, 0, 0, 0, 0⟩] [(0, 0)] [9] [none, some ga]) (act0 ((0 : Nat) : Int) ((gS b1 [0, 20, 1000] [-1, -1, -1, -1] 11 [⟨1, 1, 6, 11, mO 0, false, 0, 0, 0, 0⟩] [(0, 0)] [9] [none, some ga]).log.length : Int)) mK = _ from plan2 _] at a11
  have A11 := κ a11
  have GK : Hid (gO ≠ gk ∧ ga ≠ gk) := κ (by have := O10.out.lt; have := A10.out.blk.lt; omega)
  have O11 := κ (f11.blk O10.out (by rw [Z8.out]; omega))
  have Z11 : Hid (ρ11 gO = gO + 8) := κ (f11.keep O10.out.lt Z8.out)
  have E11 := κ (Ac.fs A10.out f11 (by omega) (by decide))
  have B11 := κ (B10.out.trans (f11.below (Nat.le_trans B10.out.size (Nat.le_refl _)) (fun k hk => by rw [G10.out.low k (Nat.lt_of_lt_of_le hk HBS.out)]; decide)))
  clear DK g11 a11 f11 hgk O10 Z8 A10 B10 G10
  have FI := κ (finish_any base ρ11 q11 r11 g0 gk 8 _ _ _ _ w11 G11 A11 (r2 [some gk, some ga]) (by decide) rfl)
  go_wp2_with fail
  refine FI.out.mono ?_
  rintro e w12 ⟨rfl, ρ12, q12, r12, f12, g12, a12, _⟩
  have G12 := κ g12
  have A12 := κ a12
  have O12 := κ (f12.blk O11.out (by rw [Z11.out]; have := GK.out; unfold CC; omega))
  have Z12 : Hid (ρ12 gO = gO + 8) := κ (f12.keep O11.out.lt Z11.out)
  have E12 := κ (Ac.fs E11.out f12 (by have := GK.out; unfold CC; omega) CC.n0)
  have B12 := κ (B11.out.trans (f12.below (Nat.le_trans B11.out.size (Nat.le_refl _)) (fun k hk => by rw [G11.out.low k (Nat.lt_of_lt_of_le hk HBS.out)]; exact CC.n0)))
  have AN := κ (answer_any ρ12 g0 gk r12 _ w12 A12 rfl)
  clear FI f12 g12 a12 G11 A11 O11 Z11 B11 E11
  go_wp2_with fail
  refine AN.out.mono ?_
  rintro e w13 ⟨rfl, hb13⟩
  have G13 := κ (Gt.ext G12.out hb13)
  have O13 := κ (Blk.below' O12.out hb13)
  have E13 := κ (Ac.ext E12.out hb13)
  have B13 := κ (CrdB.below_step B12.out hb13)
  have fld := fldA 0 0
  clear AN hb13 A12 O12 B12 G12 E12
  have z6 := O13.out.thaw 6
  have c6 := O13.out.cell 6
  simp at c6
  go_upto_region 11 with fail
  clear c6 z6 fld
  have F14 : Fs (fun c => c = gO + 8) ρ12 w13 ρ12 (w13.setCell ⟨gO, 6, none⟩ (.int .i64 1)) := Fs.set _ _ _ _ _ _ Z12.out
  have G14 := κ (Gt.fs G13.out F14 (fun k hk => G13.out.new k (Nat.le_trans F14.size hk)) (by omega))
  have E14 := κ (Ac.fs E13.out F14 (by have := GA.out; omega) (by omega))
  have O14 := κ (blk_set O13.out 6 (.int .i64 1))
  have B14 := κ (B13.out.trans (F14.below (Nat.le_trans B13.out.size (Nat.le_refl _)) (fun k hk => by rw [G13.out.low k (Nat.lt_of_lt_of_le hk HBS.out)]; omega)))
  clear F14 G13 O13 E13 B13
  generalize w13.setCell ⟨gO, 6, none⟩ (.int .i64 1) = w14 at G14 E14 O14 B14 ⊢
  have k0 := O14.out.cell 0
  have k1 := O14.out.cell 1
  have k2 := O14.out.cell 2
  have k3 := O14.out.cell 3
  have k4 := O14.out.cell 4
  have k5 := O14.out.cell 5
  have k6 := O14.out.cell 6
  have k7 := O14.out.cell 7
  have k8 := O14.out.cell 8
  have k9 := O14.out.cell 9
  have k10 := O14.out.cell 10
  have k11 := O14.out.cell 11
  simp at k0 k1 k2 k3 k4 k5 k6 k7 k8 k9 k10 k11
  have D3 := κ (do_any base ρ12 q12 g0 1 (mO 1) (gS b2 [1, 20, 1000] [-1, -1, -1, -1] 20 [⟨1, 1, 6, 11, mO 0, false, 0, 0, 0, 0⟩, ⟨0, 11, 14, 20, mK, false, 0, 0, 0, 0⟩, ⟨0, 15, 17, 20, m0, true, 0, 0, 0, 1⟩] [(0, 0), (1, 0)] [9, 18] [some gk, some ga]) w14 G14 (by show 1 < 2; decide) (x := some ga) rfl (fun W hb => over_any ρ12 g0 ga r8 _ W (κ (Ac.ext E14.out hb))) (vsS (by decide) (by decide) (by decide) (by decide)) (by show 3 ≤ 1000000; decide) (κ (vcS _ _ _ _ _ _ _ _)) (wfO 1 ⟨by decide, by decide⟩))
  go_wp2_with fail
  refine D3.out.mono ?_
  rintro e w15 ⟨gb, ρ15, q15, r15, rfl, hgb, f15, g15, a15⟩
  have G15 : Hid (Gt base ρ15 w15 g0 q15 (gS b2 [1, 20, 1000] [-1, -1, -1, -1] 20 [⟨1, 1, 6, 11, mO 0, false, 0, 0, 0, 0⟩, ⟨0, 11, 14, 20, mK, false, 0, 0, 0, 0⟩, ⟨0, 15, 17, 20, m0, true, 0, 0, 0, 1⟩, ⟨1, 20, 0, 0, mO 1, false, 0, 0, 0, 0⟩] [(0, 0), (1, 0)] [9, 18] [some gk, some gb])) := κ g15
  rw [show planA (gS b2 [1, 20, 1000] [-1, -1, -1, -1] 20 [⟨1, 1, 6, 11, mO 0, false, 0, 0, 0, 0⟩, ⟨0, 11, 14, 20, mK, false, 0, 0, 0, 0⟩, ⟨0, 15, 17, 20, m0, true, 0, 0, 0, 1⟩] [(0, 0), (1, 0)] [9, 18] [some gk, some ga]) (act0 ((1 : Nat) : Int) ((gS b2 [1, 20, 1000] [-1, -1, -1, -1] 20 [⟨1, 1, 6, 11, mO 0, false, 0, 0, 0, 0⟩, ⟨0, 11, 14, 20, mK, false, 0, 0, 0, 0⟩, ⟨0, 15, 17, 20, m0, true, 0, 0, 0, 1⟩] [(0, 0), (1, 0)] [9, 18] [some gk, some ga]).log.length : Int)) (mO 1) = _ from plan3 _] at a15
  have A15 := κ a15
  have B15 := κ (B14.out.trans (f15.below (Nat.le_trans B14.out.size (Nat.le_refl _)) (fun k hk => by rw [G14.out.low k (Nat.lt_of_lt_of_le hk HBS.out)]; decide)))
  clear D3 g15 a15 f15 hgb O14 Z12 E14 G14 B14 k0 k1 k2 k3 k4 k5 k6 k7 k8 k9 k10 k11
  have OU := κ (out_any base ρ15 q15 g0 (gS b2 [1, 20, 1000] [-1, -1, -1, -1] 20 [⟨1, 1, 6, 11, mO 0, false, 0, 0, 0, 0⟩, ⟨0, 11, 14, 20, mK, false, 0, 0, 0, 0⟩, ⟨0, 15, 17, 20, m0, true, 0, 0, 0, 1⟩, ⟨1, 20, 0, 0, mO 1, false, 0, 0, 0, 0⟩] [(0, 0), (1, 0)] [9, 18] [some gk, some gb]) w15 G15 (by show 2 ≤ 1000000; decide) (by show 2 ≤ 1000000; decide))
  go_wp2_with fail
  refine OU.out.mono ?_
  rintro e w16 ⟨A, c, B, d, he, hA, hB, hb16, hnew⟩
  have he : e = .returned (.tuple #[.slice A 2 c, .slice B 2 d]) := he
  subst he
  obtain ⟨bA, oA, hAe, hlt, hcell⟩ := Rd.at hA (by show nds [(0, 0), (1, 0)] ≠ []; decide)
  subst hAe
  have LB := κ hlt
  have u0 : w16.cell? ⟨bA, oA, none⟩ = some (.int .i64 0) := hcell 0 _ rfl
  have u2 : w16.cell? ⟨bA, oA + 2, none⟩ = some (.int .i64 1) := hcell 2 _ rfl
  have G16 := κ (Gt.ext G15.out hb16)
  have A16 := κ (Ac.ext A15.out hb16)
  have B16 := κ (CrdB.below_step B15.out hb16)
  have RZ : Hid (ρ15 bA = 0) := κ (G15.out.new _ (hnew _ rfl))
  have u0 := κ u0
  have u2 := κ u2
  clear OU hA hB hb16 hnew hcell hlt G15 A15 B15
  have FI := κ (finish_any base ρ15 q15 r15 g0 gb 6 _ _ _ _ w16 G16 A16 (r3 [some gk, some gb]) (by decide) rfl)
  go_wp2_with fail
  refine FI.out.mono ?_
  rintro e w17 ⟨rfl, ρ17, q17, r17, f17, g17, a17, _⟩
  have G17 := κ g17
  have A17 := κ a17
  have v0 := κ (ce f17 u0.out RZ.out CC.n0)
  have v2 := κ (ce f17 u2.out RZ.out CC.n0)
  have L17 : Hid (bA < w17.heap.size) := κ (Nat.lt_of_lt_of_le LB.out f17.size)
  have B17 := κ (B16.out.trans (f17.below (Nat.le_trans B16.out.size (Nat.le_refl _)) (fun k hk => by rw [G16.out.low k (Nat.lt_of_lt_of_le hk HBS.out)]; exact CC.n0)))
  have AN := κ (answer_any ρ17 g0 gb r17 _ w17 A17 rfl)
  clear FI f17 g17 a17 G16 A16 B16 u0 u2
  go_wp2_with fail
  refine AN.out.mono ?_
  rintro e w18 ⟨rfl, hb18⟩
  have x0 : w18.cell? ⟨bA, oA, none⟩ = some (.int .i64 0) := (hb18.cell (p := ⟨bA, oA, none⟩) L17.out).trans v0.out
  have x2 : w18.cell? ⟨bA, oA + 2, none⟩ = some (.int .i64 1) := (hb18.cell (p := ⟨bA, oA + 2, none⟩) L17.out).trans v2.out
  have G18 := κ (Gt.ext G17.out hb18)
  have B18 := κ (CrdB.below_step B17.out hb18)
  have fld := fldA 2 0
  have LG := κ (log_any base ρ17 q17 g0 _ w18 G18 (by show 4 ≤ 1000000; decide))
  clear AN hb18 G17 A17 B17 v0 v2
  go_wp2_with fail
  refine LG.out.mono ?_
  rintro e w19 ⟨A', c', he, _, hb19⟩
  have he : e = .returned (.slice A' 4 c') := he
  subst he
  have B19 := κ (CrdB.below_step B18.out hb19)
  clear LG hb19
  go_wp2_with fail
  go_ret
  exact ⟨rfl, B19.out⟩
end Gto
end Go.Proofs.YtaeddnjjeholgaaGreat
