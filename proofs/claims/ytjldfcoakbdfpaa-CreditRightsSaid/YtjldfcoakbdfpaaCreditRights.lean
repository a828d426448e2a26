/- For every State the law CreditRights returns true, and changes nothing: whether it may be is told as the reference says. No condition. -/
import Derived.Test.YtjldfcoakbdfpaaTold4
import Derived.Test.YtjldfcoakbdfpaaTo4
import Derived.Test.YtjldfcoakbdfpaaOpn
namespace Go.Proofs.Ytjldfcoakbdfpaa.creditRights
open Go.ChangeShapes Go.WideShapes Go.ChangeAt Go.RowKit Mem Tre Ref3 Law3 Fix3 Crd CrdB CrdC Cpl Own Res Rr4 Sm4 Told4 To4 Opn Go.Joins Go.Deep
set_option linter.unusedVariables false

theorem own : ownKnob Try.prog.godebug = none := by kernel_rfl
theorem laidOut : laidOutB Try.prog = true := by kernel_rfl

set_option maxHeartbeats 2000000 in
theorem inner (A A' : Option Addr) (c c' : Nat) (l : List (Int × Int)) (u : List Int) (w : World) (hl : Hid (Nds w w.heap.size A l)) (hu : Hid (Ris w w.heap.size A' u)) (hw : Hid (WfN l)) (hwu : Hid (WfI u)) (hmax : (l.length : Int) ≤ 9223372036854775807) (hmay : (u.length : Int) ≤ 9223372036854775807) :
    Calls Try.prog 7 #[.agg #[.slice A l.length c, .slice A' u.length c']] w (MadeB true w) := by
  have b0 : Below w.heap.size w (w.alloc (.cells #[.slice A l.length c, .slice A' u.length c'] 44)) := (Below.refl _ _).alloc (Nat.le_refl _) _
  by_cases h1 : 40 < l.length
  · go_enter Try.func7, Try.ntmps7
    go_wp2_with (go_at_call 20; refine (told4_any _).mono ?_; rintro e w1 ⟨rfl, hb1⟩)
    go_ret
    exact madeB_mk rfl (below_step b0 hb1)
  by_cases h2 : 40 < u.length
  · go_enter Try.func7, Try.ntmps7
    go_wp2_with (go_at_call 20; refine (told4_any _).mono ?_; rintro e w1 ⟨rfl, hb1⟩)
    go_ret
    exact madeB_mk rfl (below_step b0 hb1)
  have H1 : Hid (∀ W, Below w.heap.size w W → Hid (Nds W W.heap.size A l)) := fun W hb => Rd.below' hl.out hb hb.size
  have H2 : Hid (∀ W, Below w.heap.size w W → Hid (Ris W W.heap.size A' u)) := fun W hb => Rd.below' hu.out hb hb.size
  have K0 : Hid (Blk (w.alloc (.cells #[.slice A l.length c, .slice A' u.length c'] 44)).drew w.heap.size 44 #[.slice A l.length c, .slice A' u.length c']) := Blk.fresh w _ _
  have B0 : Hid (Below w.heap.size w (w.alloc (.cells #[.slice A l.length c, .slice A' u.length c'] 44)).drew) := b0.drew
  have e1 : (rightF l u == rightF l u) = true := by simp
  have m1 : (l.length : Int) ≤ 1000000 := by omega
  have m2 : (u.length : Int) ≤ 1000000 := by omega
  go_enter Try.func7, Try.ntmps7
  go_wp2_with fail
  go_region_held3 (fun w' => w'.cell? ⟨w.heap.size, 0, none⟩ = some (.slice A l.length c) ∧ w'.cell? ⟨w.heap.size, 1, none⟩ = some (.slice A' u.length c'))
    (first | go_keep | (exact ⟨q1, p1⟩) | (exact ⟨q2, p2⟩) | (exact ⟨q3, p3⟩) | (exact ⟨q4, p4⟩))
    (first
      | (go_at_call 20; refine (told4_any _).mono ?_; rintro e w1 ⟨rfl, hb1⟩; have B1 := Lib.hid (below_step (Hid.out (by assumption)) hb1); have K1 : Hid (Blk w1 w.heap.size 44 #[.slice A l.length c, .slice A' u.length c']) := Blk.below' (Hid.out (by assumption)) hb1; have q1 : w1.cell? ⟨w.heap.size, 0, none⟩ = some (.slice A l.length c) := K1.out.cell 0; have p1 : w1.cell? ⟨w.heap.size, 1, none⟩ = some (.slice A' u.length c') := K1.out.cell 1)
      | (go_at_call 30; refine (to4_any A A' c c' l u _ (H1.out _ (Hid.out (by assumption))) (H2.out _ (Hid.out (by assumption))) hw m1 m2).mono ?_; rintro e w2 ⟨A1, c1, A2, c2, rfl, nT, uT, hb2⟩; have B2 := Lib.hid (below_step (Hid.out (by assumption)) hb2); have K2 : Hid (Blk w2 w.heap.size 44 #[.slice A l.length c, .slice A' u.length c']) := Blk.below' (Hid.out (by assumption)) hb2; have q2 : w2.cell? ⟨w.heap.size, 0, none⟩ = some (.slice A l.length c) := K2.out.cell 0; have p2 : w2.cell? ⟨w.heap.size, 1, none⟩ = some (.slice A' u.length c') := K2.out.cell 1; have NT := Lib.hid nT; have UT := Lib.hid uT; clear nT uT)
      | (go_at_call 29; refine (right_any A1 A2 c1 c2 l u _ (by first | exact NT | exact Rd.below' NT.out hb4 hb4.size) (by first | exact UT | exact Rd.below' UT.out hb4 hb4.size) hw hwu m1 m2).mono ?_; rintro e w3 ⟨rfl, hb3⟩; have B3 := Lib.hid (below_step (Hid.out (by assumption)) hb3); have K3 : Hid (Blk w3 w.heap.size 44 #[.slice A l.length c, .slice A' u.length c']) := Blk.below' (Hid.out (by assumption)) hb3; have q3 : w3.cell? ⟨w.heap.size, 0, none⟩ = some (.slice A l.length c) := K3.out.cell 0; have p3 : w3.cell? ⟨w.heap.size, 1, none⟩ = some (.slice A' u.length c') := K3.out.cell 1)
      | (go_at_call 31; refine (rright_any A A' c c' l u _ (H1.out _ (Hid.out (by assumption))) (H2.out _ (Hid.out (by assumption))) hw hwu m1 m2).mono ?_; rintro e w4 ⟨rfl, hb4⟩; have B4 := Lib.hid (below_step (Hid.out (by assumption)) hb4); have K4 : Hid (Blk w4 w.heap.size 44 #[.slice A l.length c, .slice A' u.length c']) := Blk.below' (Hid.out (by assumption)) hb4; have q4 : w4.cell? ⟨w.heap.size, 0, none⟩ = some (.slice A l.length c) := K4.out.cell 0; have p4 : w4.cell? ⟨w.heap.size, 1, none⟩ = some (.slice A' u.length c') := K4.out.cell 1))
  all_goals
    go_wp2_with fail
    go_ret
    exact madeB_mk rfl (Hid.out (by assumption))

set_option maxRecDepth 100000 in
theorem lifted (os : Os) (started : os.Started) (H : Type) (enc : TypeId × Value → H) :
    ReturnsInHanded {} Try.checked os 7 .any (Rows.creditRightsSpec.pre6 enc Try.prog Try.f7 Rows.creditRightsRow.domain false) (Rows.creditRightsSpec.post enc Try.prog Try.f7 false true false false) := by
  refine returnsInHanded_of_change (C := Try.checked) own started (by kernel_rfl) Try.func7
    (ChangeSpec.witness6 (enc := enc) (C := Try.checked) false ⟨#[], #[.agg #[.slice none 0 0, .slice none 0 0]], []⟩ 8 (by kernel_rfl) (by kernel_rfl) (by kernel_rfl) (by kernel_rfl)) ?_
  intro W base args ds gs before hval0 hW hcnd _
  have hval : ∀ (j : Nat) t v, Try.f7.params[j]? = some t → args[j]? = some v → Value.okWide Try.prog W .any base t v := hval0
  have hW' := hW
  obtain ⟨p, q, hA0, hV, rfl, hfz, hnd⟩ := hW
  have hA : DataW.TrodAll enc Try.prog W 0 (fun _ => true) true Try.f7.params.toList args.toList ds p := hA0
  rw [Try.params7] at hA hval
  obtain ⟨v0, d0, rfl, rfl, h0⟩ := trodAll_one hA
  obtain ⟨x0, x1, y0, y1, fu, rfl, _, _, t0, t1⟩ := open_agg2 Try.underlying44 (by kernel_rfl) (by kernel_rfl) (hval 0 _ v0 rfl rfl) h0
  obtain ⟨A, c, l, rfl, hlc, hcm, hl, hw⟩ := open_nodesc Try.underlying22 Try.underlying69 (by kernel_rfl) rfl rfl (by kernel_rfl) (by kernel_rfl) Try.underlying3 Try.underlying2 t0
  obtain ⟨A', c', u, rfl, huc, hum, hu, hwu⟩ := open_i64c Try.underlying42 Try.underlying2 (by kernel_rfl) t1
  refine (inner A A' c c' l u W hl hu hw hwu (by unfold maxLen at hcm; omega) (by unfold maxLen at hum; omega)).mono fun e W' ⟨he, hb⟩ => ?_
  subst he
  exact ⟨_, rfl, law_post hW' rfl rfl rfl rfl (by kernel_rfl) Try.underlying4 (by rw [Try.params7]; simp only [List.mem_cons, List.not_mem_nil, or_false, forall_eq]; exact ⟨by kernel_rfl, of_decide_eq_true (by kernel_rfl)⟩) laidOut hb⟩

theorem over : Rows.creditRightsRow.holds Try.pinned (OpenSpec.ofChange Rows.creditRightsSpec) :=
  OpenClaim.holds_of_wide 7 Try.f7 rfl rfl rfl rfl rfl rfl rfl ⟨rfl, rfl, rfl, rfl, rfl⟩ rfl rfl rfl rfl rfl (by kernel_rfl) Try.func7 (by kernel_rfl)
    (of_decide_eq_true (by kernel_rfl)) (by unfold Func.isWrapper; first | (rw [if_pos (by decide +kernel)]; kernel_rfl) | (rw [if_neg (by decide +kernel)]; exact ⟨rfl, rfl⟩))
    (fun os started H enc _ => lifted os started H enc)

theorem proved : Rows.CreditRightsSaid := over
#print axioms proved
end Go.Proofs.Ytjldfcoakbdfpaa.creditRights
