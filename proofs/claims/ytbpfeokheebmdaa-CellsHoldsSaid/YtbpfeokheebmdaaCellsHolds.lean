/- For every slice of numbers the law CellsHolds returns true, and changes nothing: a latch is one's alone, who has it frees it, and nobody else. No condition. -/
import Derived.Test.YtbpfeokheebmdaaCu
import Derived.Test.YtbpfeokheebmdaaOpn
namespace Go.Proofs.Ytbpfeokheebmdaa.cellsHolds
set_option maxRecDepth 100000
open Go.ChangeShapes Go.WideShapes Go.ChangeAt Go.RowKit Mem Cel Cm Cn Cx Cy Cz Cr Ct Cu Opn Go.Joins Go.Deep
set_option linter.unusedVariables false

theorem own : ownKnob Try.prog.godebug = none := by kernel_rfl
theorem laidOut : laidOutB Try.prog = true := by kernel_rfl

theorem free_eq (m t : Int) (h0 : 0 ≤ m) : freeF ⟨[0], [m], t⟩ m 0 = (true, ⟨[0], [-1], wrap64 (t + 1)⟩) := by simp [freeF, latF, swF, inR, gI, h0]
theorem free_ne (h m t : Int) (h0 : 0 ≤ m) (hne : ¬ h = m) : freeF ⟨[0], [h], t⟩ m 0 = (false, ⟨[0], [h], wrap64 (t + 1)⟩) := by simp [freeF, latF, swF, inR, gI, h0, hne]
theorem take_eq (m t : Int) (h0 : 0 ≤ m) : takeF ⟨[0], [-1], t⟩ m 0 = (true, ⟨[0], [m], wrap64 (t + 1)⟩) := by simp [takeF, latF, swF, inR, gI, h0]
theorem take_ne (h m t : Int) (h0 : 0 ≤ m) (hne : ¬ h = -1) : takeF ⟨[0], [h], t⟩ m 0 = (false, ⟨[0], [h], wrap64 (t + 1)⟩) := by simp [takeF, latF, swF, inR, gI, h0, hne]
theorem hold_eq (h t : Int) : holdF ⟨[0], [h], t⟩ 0 = h := by simp [holdF, inR, gI]
theorem wrap_u64 (x : Int) : IntKind.u64.wrap x = x % 18446744073709551616 := by simp [IntKind.wrap, IntKind.bits, IntKind.signed]
theorem mod5 (x : Int) : 0 ≤ wrap64 ((IntKind.u64.wrap x).tmod 5) ∧ wrap64 ((IntKind.u64.wrap x).tmod 5) < 5 := by
  rw [wrap_u64, Int.tmod_eq_emod_of_nonneg (Int.emod_nonneg _ (by decide))]
  unfold wrap64
  omega
theorem one (h t : Int) : (([0] : List Int).length : Int) ≤ 9223372036854775807 ∧ (([h] : List Int).length : Int) ≤ 9223372036854775807 := by simp
set_option maxHeartbeats 8000000 in
theorem inner2 (A : Option Addr) (c : Nat) (l : List Int) (w : World) (hlc : l.length ≤ c) (hc : (c : Int) ≤ 9223372036854775807) (hr : Hid (Ris w w.heap.size A l)) :
    Calls Try.prog 5 #[.slice A l.length c] w (MadeB true w) := by
  go_enter Try.func5, Try.ntmps5
  go_wp2_with fail
  refine (new_any 1 1 _ (by omega) (by omega)).mono ?_
  rintro e w0 ⟨g, gw, gh, rfl, h0, hg, hgw, hgh, hb0⟩
  have B0 := Lib.hid hb0
  have H0 : Hid (Cs w0 51 g gw gh ⟨[0], [-1], 0⟩) := h0
  clear hb0 h0
  simp only [vNew]
  go_wp2_with fail
  refine (told_any _).mono ?_
  rintro e w1 ⟨rfl, hb1⟩
  have H1 := Lib.hid (H0.out.below hb1)
  have B1 := Lib.hid (below_step B0.out hb1)
  clear H0 B0 hb1
  go_wp2_with fail
  go_loopg [5, 6] 200 (fun q s5 s6 w' => ∃ (k : Nat) (h t : Int), k + q = 200 ∧ s5 = .int .i64 h ∧ s6 = .int .i64 k ∧ Hid (Cs w' 51 g gw gh ⟨[0], [h], t⟩) ∧ Hid (Below w.heap.size w w'))
  case atStart => exact ⟨0, -1, 0, by omega, rfl, rfl, H1, B1⟩
  case round =>
    obtain ⟨k, h, t, hk, rfl, rfl, hcs, hbel⟩ := hrel
    by_cases hlt : k < l.length
    · have t0 : decide ((k : Int) < (l.length : Int)) = true := by simp; omega
      by_cases h200 : k < 200
      · obtain ⟨q, rfl⟩ : ∃ q, gk = q + 1 := ⟨gk - 1, by omega⟩
        have t1 : decide ((k : Int) < 200) = true := by simp; omega
        obtain ⟨b, o, hA, hb, hcell⟩ := Ris.at (i := k) hr.out hlt
        subst hA
        have hc0 : wr.cell? ⟨b, o + k, none⟩ = some (.int .i64 (gI l k)) := (hbel.out.cell (p := ⟨b, o + k, none⟩) hb).trans (hcell k hlt)
        have hm5 := mod5 (gI l k)
        clear hcell
        go_upto_region 9 with fail
        generalize wrap64 ((IntKind.u64.wrap (gI l k)).tmod 5) = m at hm5 ⊢
        obtain ⟨hm0, hm1⟩ := hm5
        by_cases hhm : h = m
        · have t2 : (h == m) = true := by simp [hhm]
          have e1 : Hid (freeF ⟨[0], [h], t⟩ m 0 = (true, ⟨[0], [-1], wrap64 (t + 1)⟩)) := by rw [hhm]; exact free_eq m t hm0
          clear hhm
          go_wp2_with fail
          refine (free_any g gw gh ⟨[0], [h], t⟩ m 0 _ hcs (one h t).1 (one h t).2).mono ?_
          rintro e w2 ⟨rfl, h2, k2⟩
          rw [e1.out] at h2 ⊢
          have H2 := Lib.hid h2
          have B2 := Lib.hid (kept_step hbel.out k2 hg hgw hgh)
          clear h2 k2 e1
          go_wp2_with fail
          refine (holder_any g gw gh ⟨[0], [-1], wrap64 (t + 1)⟩ 0 _ H2 (one (-1) t).1 (one (-1) t).2).mono ?_
          rintro e w3 ⟨rfl, rfl⟩
          rw [hold_eq]
          go_wp2_with fail
          go_roundg q
          case measure => omega
          case rel => exact ⟨k + 1, -1, _, by omega, rfl, by go_num, H2, B2⟩
        · have t2 : (h == m) = false := by simp [hhm]
          have e1 := Lib.hid (free_ne h m t hm0 hhm)
          clear hhm
          go_wp2_with fail
          refine (free_any g gw gh ⟨[0], [h], t⟩ m 0 _ hcs (one h t).1 (one h t).2).mono ?_
          rintro e w2 ⟨rfl, h2, k2⟩
          rw [e1.out] at h2 ⊢
          have H2 := Lib.hid h2
          have B2 := Lib.hid (kept_step hbel.out k2 hg hgw hgh)
          clear h2 k2 e1
          go_wp2_with fail
          refine (take_any g gw gh ⟨[0], [h], wrap64 (t + 1)⟩ m 0 _ H2 (one h t).1 (one h t).2).mono ?_
          rintro e w3 ⟨rfl, h3, k3⟩
          by_cases hm : h = -1
          · have t3 : (h == -1) = true := by simp [hm]
            have e2 : Hid (takeF ⟨[0], [h], wrap64 (t + 1)⟩ m 0 = (true, ⟨[0], [m], wrap64 (wrap64 (t + 1) + 1)⟩)) := by rw [hm]; exact take_eq m _ hm0
            rw [e2.out] at h3 ⊢
            have H3 := Lib.hid h3
            have B3 := Lib.hid (kept_step B2.out k3 hg hgw hgh)
            clear h3 k3 e2 hm
            go_wp2_with fail
            refine (holder_any g gw gh ⟨[0], [m], wrap64 (wrap64 (t + 1) + 1)⟩ 0 _ H3 (one m t).1 (one m t).2).mono ?_
            rintro e w4 ⟨rfl, rfl⟩
            rw [hold_eq]
            go_wp2_with fail
            go_roundg q
            case measure => omega
            case rel => exact ⟨k + 1, m, _, by omega, rfl, by go_num, H3, B3⟩
          · have t3 : (h == -1) = false := by simp [hm]
            have e2 := Lib.hid (take_ne h m (wrap64 (t + 1)) hm0 hm)
            rw [e2.out] at h3 ⊢
            have H3 := Lib.hid h3
            have B3 := Lib.hid (kept_step B2.out k3 hg hgw hgh)
            clear h3 k3 e2 hm
            go_wp2_with fail
            refine (holder_any g gw gh ⟨[0], [h], wrap64 (wrap64 (t + 1) + 1)⟩ 0 _ H3 (one h t).1 (one h t).2).mono ?_
            rintro e w4 ⟨rfl, rfl⟩
            rw [hold_eq]
            go_wp2_with fail
            go_roundg q
            case measure => omega
            case rel => exact ⟨k + 1, h, _, by omega, rfl, by go_num, H3, B3⟩
      · have t1 : decide ((k : Int) < 200) = false := by simp; omega
        go_wp2_with fail
        go_ret
        exact madeB_mk rfl hbel.out
    · have t0 : decide ((k : Int) < (l.length : Int)) = false := by simp; omega
      go_wp2_with fail
      go_ret
      exact madeB_mk rfl hbel.out

set_option maxRecDepth 100000 in
theorem lifted (os : Os) (started : os.Started) (H : Type) (enc : TypeId × Value → H) :
    ReturnsInHanded {} Try.checked os 5 .any (Rows.cellsHoldsSpec.pre6 enc Try.prog Try.f5 Rows.cellsHoldsRow.domain false) (Rows.cellsHoldsSpec.post enc Try.prog Try.f5 false true false false) := by
  refine returnsInHanded_of_change (C := Try.checked) own started (by kernel_rfl) Try.func5
    (ChangeSpec.witness6 (enc := enc) (C := Try.checked) false ⟨#[], #[.slice none 0 0], []⟩ 8 (by kernel_rfl) (by kernel_rfl) (by kernel_rfl) (by kernel_rfl)) ?_
  intro W base args ds gs before hval0 hW hcnd _
  have hval : ∀ (j : Nat) t v, Try.f5.params[j]? = some t → args[j]? = some v → Value.okWide Try.prog W .any base t v := hval0
  have hW' := hW
  obtain ⟨p, q, hA0, hV, rfl, hfz, hnd⟩ := hW
  have hA : DataW.TrodAll enc Try.prog W 0 (fun _ => true) true Try.f5.params.toList args.toList ds p := hA0
  rw [Try.params5] at hA hval
  obtain ⟨v0, d0, rfl, rfl, h0⟩ := trodAll_one hA
  obtain ⟨A0, n0, c0, rfl⟩ := okWide_slice Try.underlying38 (hval 0 _ v0 rfl rfl)
  obtain ⟨fu, h0'⟩ := h0
  obtain ⟨A, c, l, hv, hlc, hcm, hl, _⟩ := open_i64c (v := .slice A0 n0 c0) Try.underlying38 Try.underlying3 (by kernel_rfl) h0'
  cases hv
  refine (inner2 A0 c0 l W hlc (by unfold maxLen at hcm; omega) hl).mono fun e W' ⟨he, hb⟩ => ?_
  subst he
  exact ⟨_, rfl, law_post hW' rfl rfl rfl rfl (by kernel_rfl) Try.underlying4 (by rw [Try.params5]; simp only [List.mem_cons, List.not_mem_nil, or_false, forall_eq]; exact ⟨by kernel_rfl, of_decide_eq_true (by kernel_rfl)⟩) laidOut hb⟩

theorem over : Rows.cellsHoldsRow.holds Try.pinned (OpenSpec.ofChange Rows.cellsHoldsSpec) :=
  OpenClaim.holds_of_wide 5 Try.f5 rfl rfl rfl rfl rfl rfl rfl ⟨rfl, rfl, rfl, rfl, rfl⟩ rfl rfl rfl rfl rfl (by kernel_rfl) Try.func5 (by kernel_rfl)
    (of_decide_eq_true (by kernel_rfl)) (by unfold Func.isWrapper; first | (rw [if_pos (by decide +kernel)]; kernel_rfl) | (rw [if_neg (by decide +kernel)]; exact ⟨rfl, rfl⟩))
    (fun os started H enc _ => lifted os started H enc)

theorem proved : Rows.CellsHoldsSaid := over
#print axioms proved
end Go.Proofs.Ytbpfeokheebmdaa.cellsHolds
