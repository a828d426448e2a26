/- For every Config the law RulesChecks returns true, and changes nothing: what is wrong with it is told as the reference says. No condition. -/
import Derived.Test.YtecjecgkioklaaaTl5
import Derived.Test.YtecjecgkioklaaaOpc
import Derived.Test.YtecjecgkioklaaaRul2
import Derived.Test.YtecjecgkioklaaaRul5
import Derived.Test.YtecjecgkioklaaaFew5
namespace Go.Proofs.Ytecjecgkioklaaa.rulesChecks
set_option maxRecDepth 100000
open Go.ChangeShapes Go.WideShapes Go.ChangeAt Go.RowKit Mem Tre Ref3 Law3 Fix3 Opn Bnd Flo Cfg CrdB CrdC Rr4 Fr4 Rul1 Rul2 Rul3 Rul4 Rul5 Rul6 St7 Tl5 Opc Few5 Go.Joins Go.Deep
set_option linter.unusedVariables false

theorem own : ownKnob Try.prog.godebug = none := by kernel_rfl
theorem laidOut : laidOutB Try.prog = true := by kernel_rfl

set_option maxHeartbeats 4000000 in
theorem inner2 (sh wi ra ta : Int) (A B C : Option Addr) (N M K c d f : Nat) (nd : List (Int × Int)) (ac : List Int) (sy : List (Int × Int × Int × Nat)) (w : World)
    (hn : Hid (cut N 40 = nd.length)) (hm : Hid (cut M 40 = ac.length)) (hk : Hid (cut K 20 = sy.length)) (hN : N ≤ c) (hM : M ≤ d) (hK : K ≤ f) (hc : (c : Int) ≤ 9223372036854775807) (hd : (d : Int) ≤ 9223372036854775807) (hf : (f : Int) ≤ 9223372036854775807)
    (hl : Hid (Nds w w.heap.size A nd)) (hu : Hid (Ris w w.heap.size B ac)) (hs : Hid (Btb w w.heap.size C sy)) (hw : Hid (WfN nd)) (hwa : Hid (WfI ac)) (hws : Hid (WfS sy)) :
    Calls Try.prog 3 #[.agg #[.int .i64 sh, .int .i64 wi, .int .i64 ra, .int .i64 ta, .slice A N c, .slice B M d, .slice C K f]] w (MadeB true w) := by
  have l1 : nd.length ≤ 40 := by rw [← hn.out]; exact cut_le.2
  have l2 : ac.length ≤ 40 := by rw [← hm.out]; exact cut_le.2
  have l3 : sy.length ≤ 20 := by rw [← hk.out]; exact cut_le.2
  have b0 : Below w.heap.size w (w.alloc (.cells #[.int .i64 sh, .int .i64 wi, .int .i64 ra, .int .i64 ta, .slice A N c, .slice B M d, .slice C K f] 26)) := (Below.refl _ _).alloc (Nat.le_refl _) _
  go_enter Try.func3, Try.ntmps3
  go_wp2_with fail
  refine (few_any sh wi ra ta A B C N M K c d f _ hN hM hK hc hd hf).mono ?_
  rintro e w1 ⟨rfl, hb1⟩
  have b1 : Below w.heap.size w w1 := CrdB.below_step b0 hb1
  clear b0 hb1
  go_wp2_with fail
  refine (ref_any sh wi ra ta A B C c d f _ _ _ nd ac sy _ hn hm hk (Rd.below' hl.out b1 b1.size) (Rd.below' hu.out b1 b1.size) (Rd.below' hs.out b1 b1.size) (by rw [hk.out]; omega)).mono ?_
  rintro e w2 ⟨A2, B2, C2, c2, d2, f2, rfl, n2, u2, s2, hb2⟩
  have b2 := CrdB.below_step b1 hb2
  have V3 : Hid (CfV (w2.alloc (.cells #[.int .i64 sh, .int .i64 wi, .int .i64 ra, .int .i64 ta, .slice A2 nd.length c2, .slice B2 ac.length d2, .slice C2 sy.length f2] 29)) w2.heap.size 29 A2 B2 C2 sh wi ra ta nd.length ac.length sy.length c2 d2 f2 nd ac sy) := CfV.new n2 u2 s2
  have B3 : Hid (Below w.heap.size w (w2.alloc (.cells #[.int .i64 sh, .int .i64 wi, .int .i64 ra, .int .i64 ta, .slice A2 nd.length c2, .slice B2 ac.length d2, .slice C2 sy.length f2] 29))) := b2.alloc b2.size _
  clear b1 hb2 b2 n2 u2 s2
  go_upto_region 2 with fail
  generalize w2.alloc (.cells #[.int .i64 sh, .int .i64 wi, .int .i64 ra, .int .i64 ta, .slice A2 nd.length c2, .slice B2 ac.length d2, .slice C2 sy.length f2] 29) = w3 at V3 B3 ⊢
  generalize w2.heap.size = gC at V3 ⊢
  have s0 : w3.cell? ⟨gC, 0, none⟩ = some (.int .i64 sh) ∧ w3.cell? ⟨gC, 1, none⟩ = some (.int .i64 wi) ∧ w3.cell? ⟨gC, 2, none⟩ = some (.int .i64 ra) ∧ w3.cell? ⟨gC, 3, none⟩ = some (.int .i64 ta) ∧ w3.cell? ⟨gC, 4, none⟩ = some (.slice A2 nd.length c2) ∧ w3.cell? ⟨gC, 5, none⟩ = some (.slice B2 ac.length d2) ∧ w3.cell? ⟨gC, 6, none⟩ = some (.slice C2 sy.length f2) := c7_of V3.out.blk
  have V3d : Hid (CfV w3.drew gC 29 A2 B2 C2 sh wi ra ta nd.length ac.length sy.length c2 d2 f2 nd ac sy) := ⟨V3.out.blk, V3.out.nds, V3.out.ris, V3.out.smb⟩
  have B3d : Hid (Below w.heap.size w w3.drew) := B3.out.drew
  have e1 : (cfgF sh wi ra ta nd ac sy == cfgF sh wi ra ta nd ac sy) = true := by simp
  go_region_held3 (fun w' => w'.cell? ⟨gC, 0, none⟩ = some (.int .i64 sh) ∧ w'.cell? ⟨gC, 1, none⟩ = some (.int .i64 wi) ∧ w'.cell? ⟨gC, 2, none⟩ = some (.int .i64 ra) ∧ w'.cell? ⟨gC, 3, none⟩ = some (.int .i64 ta) ∧ w'.cell? ⟨gC, 4, none⟩ = some (.slice A2 nd.length c2) ∧ w'.cell? ⟨gC, 5, none⟩ = some (.slice B2 ac.length d2) ∧ w'.cell? ⟨gC, 6, none⟩ = some (.slice C2 sy.length f2))
    (first | go_keep | (with_reducible assumption) | (exact q1) | (exact q2) | (exact q3) | (exact q4))
    (first
      | (go_at_call 14; refine (told5_any _).mono ?_; rintro e w4 ⟨rfl, hb4⟩; have B4 := Lib.hid (CrdB.below_step (Hid.out (by assumption)) hb4); have V4 := Lib.hid (CfV.below V3d.out hb4); have q1 : w4.cell? ⟨gC, 0, none⟩ = some (.int .i64 sh) ∧ w4.cell? ⟨gC, 1, none⟩ = some (.int .i64 wi) ∧ w4.cell? ⟨gC, 2, none⟩ = some (.int .i64 ra) ∧ w4.cell? ⟨gC, 3, none⟩ = some (.int .i64 ta) ∧ w4.cell? ⟨gC, 4, none⟩ = some (.slice A2 nd.length c2) ∧ w4.cell? ⟨gC, 5, none⟩ = some (.slice B2 ac.length d2) ∧ w4.cell? ⟨gC, 6, none⟩ = some (.slice C2 sy.length f2) := c7_of V4.out.blk)
      | (go_at_call 16; refine (to5_any sh wi ra ta A2 B2 C2 c2 d2 f2 nd ac sy _ (CfV.nds (Hid.out (by assumption))) (CfV.ris (Hid.out (by assumption))) (CfV.smb (Hid.out (by assumption))) hw (by omega) (by omega) (by omega)).mono ?_; rintro e w5 ⟨A5, B5, C5, c5, d5, f5, rfl, n5, u5, s5, hb5⟩; have N5 := Lib.hid n5; have U5 := Lib.hid u5; have S5 := Lib.hid s5; have B5' := Lib.hid (CrdB.below_step (Hid.out (by assumption)) hb5); have V5 : Hid (CfV w5 gC 29 A2 B2 C2 sh wi ra ta nd.length ac.length sy.length c2 d2 f2 nd ac sy) := CfV.below (Hid.out (by assumption)) hb5; have q2 : w5.cell? ⟨gC, 0, none⟩ = some (.int .i64 sh) ∧ w5.cell? ⟨gC, 1, none⟩ = some (.int .i64 wi) ∧ w5.cell? ⟨gC, 2, none⟩ = some (.int .i64 ra) ∧ w5.cell? ⟨gC, 3, none⟩ = some (.int .i64 ta) ∧ w5.cell? ⟨gC, 4, none⟩ = some (.slice A2 nd.length c2) ∧ w5.cell? ⟨gC, 5, none⟩ = some (.slice B2 ac.length d2) ∧ w5.cell? ⟨gC, 6, none⟩ = some (.slice C2 sy.length f2) := c7_of V5.out.blk)
      | (go_at_call 15; refine (check5_any sh wi ra ta A5 B5 C5 c5 d5 f5 nd ac sy _ (by first | exact N5 | exact Rd.below' N5.out hb7 hb7.size) (by first | exact U5 | exact Rd.below' U5.out hb7 hb7.size) (by first | exact S5 | exact Rd.below' S5.out hb7 hb7.size) hw (by omega) (by omega) (by omega)).mono ?_; rintro e w6 ⟨rfl, hb6⟩; have B6 := Lib.hid (CrdB.below_step (Hid.out (by assumption)) hb6); have V6 : Hid (CfV w6 gC 29 A2 B2 C2 sh wi ra ta nd.length ac.length sy.length c2 d2 f2 nd ac sy) := CfV.below (Hid.out (by assumption)) hb6; have q3 : w6.cell? ⟨gC, 0, none⟩ = some (.int .i64 sh) ∧ w6.cell? ⟨gC, 1, none⟩ = some (.int .i64 wi) ∧ w6.cell? ⟨gC, 2, none⟩ = some (.int .i64 ra) ∧ w6.cell? ⟨gC, 3, none⟩ = some (.int .i64 ta) ∧ w6.cell? ⟨gC, 4, none⟩ = some (.slice A2 nd.length c2) ∧ w6.cell? ⟨gC, 5, none⟩ = some (.slice B2 ac.length d2) ∧ w6.cell? ⟨gC, 6, none⟩ = some (.slice C2 sy.length f2) := c7_of V6.out.blk)
      | (go_at_call 17; refine (rcheck5_any sh wi ra ta A2 B2 C2 c2 d2 f2 nd ac sy _ (CfV.nds (Hid.out (by assumption))) (CfV.ris (Hid.out (by assumption))) (CfV.smb (Hid.out (by assumption))) hw (by omega) (by omega) (by omega)).mono ?_; rintro e w7 ⟨rfl, hb7⟩; have B7 := Lib.hid (CrdB.below_step (Hid.out (by assumption)) hb7); have V7 : Hid (CfV w7 gC 29 A2 B2 C2 sh wi ra ta nd.length ac.length sy.length c2 d2 f2 nd ac sy) := CfV.below (Hid.out (by assumption)) hb7; have q4 : w7.cell? ⟨gC, 0, none⟩ = some (.int .i64 sh) ∧ w7.cell? ⟨gC, 1, none⟩ = some (.int .i64 wi) ∧ w7.cell? ⟨gC, 2, none⟩ = some (.int .i64 ra) ∧ w7.cell? ⟨gC, 3, none⟩ = some (.int .i64 ta) ∧ w7.cell? ⟨gC, 4, none⟩ = some (.slice A2 nd.length c2) ∧ w7.cell? ⟨gC, 5, none⟩ = some (.slice B2 ac.length d2) ∧ w7.cell? ⟨gC, 6, none⟩ = some (.slice C2 sy.length f2) := c7_of V7.out.blk))
  all_goals
    go_wp2_with fail
    go_ret
    exact madeB_mk rfl (Hid.out (by assumption))

set_option maxRecDepth 100000 in
theorem lifted (os : Os) (started : os.Started) (H : Type) (enc : TypeId × Value → H) :
    ReturnsInHanded {} Try.checked os 3 .any (Rows.rulesChecksSpec.pre6 enc Try.prog Try.f3 Rows.rulesChecksRow.domain false) (Rows.rulesChecksSpec.post enc Try.prog Try.f3 false true false false) := by
  refine returnsInHanded_of_change (C := Try.checked) own started (by kernel_rfl) Try.func3
    (ChangeSpec.witness6 (enc := enc) (C := Try.checked) false ⟨#[], #[.agg #[.int .i64 0, .int .i64 0, .int .i64 0, .int .i64 0, .slice none 0 0, .slice none 0 0, .slice none 0 0]], []⟩ 8 (by kernel_rfl) (by kernel_rfl) (by kernel_rfl) (by kernel_rfl)) ?_
  intro W base args ds gs before hval0 hW hcnd _
  have hval : ∀ (j : Nat) t v, Try.f3.params[j]? = some t → args[j]? = some v → Value.okWide Try.prog W .any base t v := hval0
  have hW' := hW
  obtain ⟨p, q, hA0, hV, rfl, hfz, hnd⟩ := hW
  have hA : DataW.TrodAll enc Try.prog W 0 (fun _ => true) true Try.f3.params.toList args.toList ds p := hA0
  rw [Try.params3] at hA hval
  obtain ⟨v0, d0, rfl, rfl, h0⟩ := trodAll_one hA
  obtain ⟨sh, wi, ra, ta, A, B, C, c, d, f, nd, ac, sy, rfl, _, _, _, _, k1, k2, k3, k4, k5, k6, hn, hw, ha, hwa, hs, hws⟩ := open_conf (hval 0 _ v0 rfl rfl) h0
  refine (inner2 sh wi ra ta A B C _ _ _ c d f (nd.take 40) (ac.take 40) (sy.take 20) W (cut_len _ _) (cut_len _ _) (cut_len _ _) k1 k3 k5 (by unfold maxLen at k2; omega) (by unfold maxLen at k4; omega) (by unfold maxLen at k6; omega) (nds_cut hn _) (ris_cut ha _) (btb_cut hs _) (wfn_cut hw _) (wfi_cut hwa _) (wfs_cut hws _)).mono fun e W' ⟨he, hb⟩ => ?_
  subst he
  exact ⟨_, rfl, law_post hW' rfl rfl rfl rfl (by kernel_rfl) Try.underlying4 (by rw [Try.params3]; simp only [List.mem_cons, List.not_mem_nil, or_false, forall_eq]; exact ⟨by kernel_rfl, of_decide_eq_true (by kernel_rfl)⟩) laidOut hb⟩

theorem over : Rows.rulesChecksRow.holds Try.pinned (OpenSpec.ofChange Rows.rulesChecksSpec) :=
  OpenClaim.holds_of_wide 3 Try.f3 rfl rfl rfl rfl rfl rfl rfl ⟨rfl, rfl, rfl, rfl, rfl⟩ rfl rfl rfl rfl rfl (by kernel_rfl) Try.func3 (by kernel_rfl)
    (of_decide_eq_true (by kernel_rfl)) (by unfold Func.isWrapper; first | (rw [if_pos (by decide +kernel)]; kernel_rfl) | (rw [if_neg (by decide +kernel)]; exact ⟨rfl, rfl⟩))
    (fun os started H enc _ => lifted os started H enc)

theorem proved : Rows.RulesChecksSaid := over
#print axioms proved
end Go.Proofs.Ytecjecgkioklaaa.rulesChecks
