/- For every price and every two fractions by their bits the law BandWidens returns true, and changes nothing: of a greater fraction the collar is no narrower. No condition. -/
import Derived.Test.YtlijjgcncnpkfaaRows
import Derived.WalkKit
import Derived.ProofKit
import Derived.OpenShut
import Derived.Test.YtlijjgcncnpkfaaBnd
import Derived.Laws.Bits64
namespace Go.Proofs.Ytlijjgcncnpkfaa.bandWidens
open Go.ChangeShapes Go.WideShapes Go.ChangeAt Go.RowKit Bnd Flo
set_option linter.unusedVariables false      -- a walk need not use every 'w<i>' (that an integer argument fits its kind)

theorem own : ownKnob Try.prog.godebug = none := by kernel_rfl

theorem bits_lt {a : Int} (h : (Lit.int .u64 a).wf = true) : a.toNat < 18446744073709551616 := by
  simp [Lit.wf] at h
  have h2 : a ≤ IntKind.u64.max := by first | exact h.2 | exact h
  have e : IntKind.u64.max = 18446744073709551615 := rfl
  omega
theorem price_of (a : Int) : ∃ p, wrap64 (1 + wrap64 ((IntKind.u64.wrap a).tmod 1099511627776)) = p ∧ 1 ≤ p ∧ p ≤ 1099511627776 := by
  refine ⟨_, rfl, ?_⟩
  have h0 : 0 ≤ IntKind.u64.wrap a ∧ IntKind.u64.wrap a ≤ 18446744073709551615 := by
    rw [IntKind.wrap_u64]; omega
  generalize IntKind.u64.wrap a = x at *
  rw [Int.tmod_eq_emod_of_nonneg h0.1]
  unfold wrap64
  omega
theorem colB_price {p : Int} {b : Nat} (h : 1 ≤ p) (h' : p ≤ 1099511627776) : colB p b = rightB b := by
  unfold colB; simp [h, h']
theorem wid_mono {p : Int} {b c : Nat} (hp : 1 ≤ p) (hp' : p ≤ 1099511627776) (r1 : rightB b = true) (r2 : rightB c = true) (h : rungOf b ≤ rungOf c) (hc : rungOf c ≤ INF) :
    colLo p c ≤ colLo p b ∧ colHi p b ≤ colHi p c := by
  have := dist_mono (p := p) h hc
  unfold colLo colHi
  rw [colB_price hp hp', colB_price hp hp', r1, r2]
  simp only [if_true]
  omega
theorem ord_rung {b c : Nat} (hb : b < 18446744073709551616) (hc : c < 18446744073709551616) (r1 : rightB b = true) (r2 : rightB c = true) :
    FloatKind.f64.format.order b c = some (compare (rungOf b) (rungOf c)) ∧ rungOf b ≤ INF ∧ rungOf c ≤ INF := by
  obtain ⟨t, R, rfl, h1, h2⟩ := (right_iff hb).1 r1
  obtain ⟨s, S, rfl, h3, h4⟩ := (right_iff hc).1 r2
  rw [word_rung t R h1, word_rung s S h3]
  exact ⟨order_word t s R S h1 h3 h2 h4, h1, h3⟩
theorem wid_le {p : Int} {b c : Nat} (hb : b < 18446744073709551616) (hc : c < 18446744073709551616) (r1 : rightB b = true) (r2 : rightB c = true) (hp : 1 ≤ p) (hp' : p ≤ 1099511627776)
    (ho : (FloatKind.f64.format.order b c == some .gt) = false) : colLo p c ≤ colLo p b ∧ colHi p b ≤ colHi p c := by
  obtain ⟨e, h1, h2⟩ := ord_rung hb hc r1 r2
  rw [e] at ho
  refine wid_mono hp hp' r1 r2 ?_ h2
  by_cases h : rungOf b ≤ rungOf c
  · exact h
  · rw [Nat.compare_eq_gt.2 (by omega)] at ho
    simp at ho
theorem wid_gt {p : Int} {b c : Nat} (hb : b < 18446744073709551616) (hc : c < 18446744073709551616) (r1 : rightB b = true) (r2 : rightB c = true) (hp : 1 ≤ p) (hp' : p ≤ 1099511627776)
    (ho : (FloatKind.f64.format.order b c == some .gt) = true) : colLo p b ≤ colLo p c ∧ colHi p c ≤ colHi p b := by
  obtain ⟨e, h1, h2⟩ := ord_rung hb hc r1 r2
  rw [e] at ho
  refine wid_mono hp hp' r2 r1 ?_ h1
  have : compare (rungOf b) (rungOf c) = .gt := by simpa using ho
  have := Nat.compare_eq_gt.1 this
  omega
/-! ### STEP 1: THE WALK: the Go text returns true. 'Grown w w'': the world has at most new blocks (Derived/RowKit3.lean). Part the cases AHEAD of 'go_enter' where a test parts the walk; take each callee by a contract of your own. -/
theorem walk (a0 : Int) (a1 : Int) (a2 : Int) (w0 : (Lit.int .i64 a0).wf = true) (w1 : (Lit.int .u64 a1).wf = true) (w2 : (Lit.int .u64 a2).wf = true) (w : World) :
    Calls Try.prog 7 #[.int .i64 a0, .int .u64 a1, .int .u64 a2] w fun e w' => e = .returned (.bool true) ∧ Grown w w' := by
  have hb1 := bits_lt w1
  have hb2 := bits_lt w2
  have h18 := run18
  clear w0 w1 w2
  obtain ⟨p, hp, hp1, hp2⟩ := price_of a0
  have c1 := colB_price (b := a1.toNat) hp1 hp2
  have c2 := colB_price (b := a2.toNat) hp1 hp2
  have hp1' := Lib.hid hp1
  have hp2' := Lib.hid hp2
  clear hp1 hp2
  cases r1 : rightB a1.toNat with
  | false =>
    rw [r1] at c1
    go_enter Try.func7, Try.ntmps7
    go_wp2_with (first | (go_at_call 21; refine (told2 _).mono ?_; rintro e w' ⟨rfl, rfl⟩) | (go_at_call 19; refine (col_any _ _ _ (by assumption)).mono ?_; rintro e w' ⟨rfl, rfl⟩) | (go_at_call 23; refine (rright_any _ _).mono ?_; rintro e w' ⟨rfl, rfl⟩))
    go_ret
    exact ⟨rfl, Grown.refl _⟩
  | true =>
    rw [r1] at c1
    cases r2 : rightB a2.toNat with
    | false =>
      rw [r2] at c2
      go_enter Try.func7, Try.ntmps7
      go_wp2_with (first | (go_at_call 21; refine (told2 _).mono ?_; rintro e w' ⟨rfl, rfl⟩) | (go_at_call 19; refine (col_any _ _ _ (by assumption)).mono ?_; rintro e w' ⟨rfl, rfl⟩) | (go_at_call 23; refine (rright_any _ _).mono ?_; rintro e w' ⟨rfl, rfl⟩))
      go_ret
      exact ⟨rfl, Grown.refl _⟩
    | true =>
      rw [r2] at c2
      cases ho : (FloatKind.f64.format.order a1.toNat a2.toNat == some .gt) with
      | false =>
        obtain ⟨k1, k2⟩ := wid_le hb1 hb2 r1 r2 hp1'.out hp2'.out ho
        go_enter Try.func7, Try.ntmps7
        go_wp2_with (first | (go_at_call 21; refine (told2 _).mono ?_; rintro e w' ⟨rfl, rfl⟩) | (go_at_call 19; refine (col_any _ _ _ (by assumption)).mono ?_; rintro e w' ⟨rfl, rfl⟩) | (go_at_call 23; refine (rright_any _ _).mono ?_; rintro e w' ⟨rfl, rfl⟩))
        go_ret
        exact ⟨rfl, Grown.refl _⟩
      | true =>
        obtain ⟨k1, k2⟩ := wid_gt hb1 hb2 r1 r2 hp1'.out hp2'.out ho
        go_enter Try.func7, Try.ntmps7
        go_wp2_with (first | (go_at_call 21; refine (told2 _).mono ?_; rintro e w' ⟨rfl, rfl⟩) | (go_at_call 19; refine (col_any _ _ _ (by assumption)).mono ?_; rintro e w' ⟨rfl, rfl⟩) | (go_at_call 23; refine (rright_any _ _).mono ?_; rintro e w' ⟨rfl, rfl⟩))
        go_ret
        exact ⟨rfl, Grown.refl _⟩

/-! ### THE ROW's STEP: WRITTEN OUT: LEAVE IT -/
set_option maxRecDepth 100000 in
theorem lifted (os : Os) (started : os.Started) (H : Type) (enc : TypeId × Value → H) :
    ReturnsInHanded {} Try.checked os 7 .any (Rows.bandWidensSpec.pre6 enc Try.prog Try.f7 Rows.bandWidensRow.domain false) (Rows.bandWidensSpec.post enc Try.prog Try.f7 false true false false) := by
  refine returnsInHanded_of_change (C := Try.checked) own started (by kernel_rfl) Try.func7
    (ChangeSpec.witness6 (enc := enc) (C := Try.checked) false ⟨#[], #[.int .i64 0, .int .u64 0, .int .u64 0], []⟩ 8 (by kernel_rfl) (by kernel_rfl) (by kernel_rfl) (by kernel_rfl)) ?_
  intro W base args ds gs before hval0 hW hcnd _
  have hval : ∀ (j : Nat) t v, Try.f7.params[j]? = some t → args[j]? = some v → Value.okWide Try.prog W .any base t v := hval0
  have hW' := hW
  obtain ⟨p, q, hA0, hV, rfl, hfz, hnd⟩ := hW
  have hA : DataW.TrodAll enc Try.prog W 0 (fun _ => true) true Try.f7.params.toList args.toList ds p := hA0
  rw [Try.params7] at hA hval
  obtain ⟨v0, vs0, d0, ds0, p0, q0, hargs, rfl, rfl, h0, r0⟩ := trodAll_cons hA
  obtain ⟨v1, vs1, d1, ds1, p1, q1, rfl, rfl, rfl, h1, r1⟩ := trodAll_cons r0
  obtain ⟨v2, vs2, d2, ds2, p2, q2, rfl, rfl, rfl, h2, r2⟩ := trodAll_cons r1
  obtain ⟨rfl, rfl, rfl⟩ := trodAll_nil r2
  obtain rfl : args = #[v0, v1, v2] := by cases args; simp_all
  obtain ⟨rfl, rfl⟩ := trodVars_none hV
  obtain ⟨a0, rfl, rfl, rfl, w0⟩ := open_int Try.underlying2 (hval 0 2 v0 rfl rfl) h0
  obtain ⟨a1, rfl, rfl, rfl, w1⟩ := open_int Try.underlying27 (hval 1 27 v1 rfl rfl) h1
  obtain ⟨a2, rfl, rfl, rfl, w2⟩ := open_int Try.underlying27 (hval 2 27 v2 rfl rfl) h2
  clear hA0 hval0
  simp only [List.append_nil] at hW'
  refine (walk a0 a1 a2 w0 w1 w2 W).mono fun e W' ⟨he, hg⟩ => ?_
  subst he
  exact ⟨_, rfl, post_of_same (pa := []) (pv := []) hW' (fun _ _ _ => (trodAll_cons_mk (shut_bool Try.underlying4 _) trodAll_mk0)) (fun sp _ => (trodAll_cons_mk (shut_int Try.underlying2 w0) (trodAll_cons_mk (shut_int Try.underlying27 w1) (trodAll_cons_mk (shut_int Try.underlying27 w2) trodAll_mk0)))) (fun _ _ => rfl) rfl
    (hg.frame _) hg.2.1 (ok_one (by kernel_rfl) rfl (okWide_bool_mk Try.underlying4 _))⟩

theorem over : Rows.bandWidensRow.holds Try.pinned (OpenSpec.ofChange Rows.bandWidensSpec) :=
  OpenClaim.holds_of_wide 7 Try.f7 rfl rfl rfl rfl rfl rfl rfl ⟨rfl, rfl, rfl, rfl, rfl⟩ rfl rfl rfl rfl rfl (by kernel_rfl) Try.func7 (by kernel_rfl)
    (of_decide_eq_true (by kernel_rfl)) (by unfold Func.isWrapper; first | (rw [if_pos (by decide +kernel)]; kernel_rfl) | (rw [if_neg (by decide +kernel)]; exact ⟨rfl, rfl⟩))
    (fun os started H enc _ => lifted os started H enc)

/-- ████ THE STATEMENT ████ -/
theorem proved : Rows.BandWidensSaid :=
  over
#print axioms proved
end Go.Proofs.Ytlijjgcncnpkfaa.bandWidens
