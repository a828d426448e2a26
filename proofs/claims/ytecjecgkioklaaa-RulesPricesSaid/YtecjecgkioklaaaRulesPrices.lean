/- For every price, fraction by its bits, and price asked the law RulesPrices returns true, and changes nothing: just the prices of the collar may be ordered. No condition. -/
import Derived.Test.YtecjecgkioklaaaGdc
import Derived.Test.YtecjecgkioklaaaOpc
import Derived.Test.YtecjecgkioklaaaRul2
import Derived.Test.YtecjecgkioklaaaRul5
import Derived.Test.YtecjecgkioklaaaFew5
namespace Go.Proofs.Ytecjecgkioklaaa.rulesPrices
set_option maxRecDepth 100000
open Go.ChangeShapes Go.WideShapes Go.ChangeAt Go.RowKit Mem Tre Ref3 Law3 Fix3 Opn Bnd Flo Cfg CrdB CrdC Rr4 Fr4 Rul1 Rul2 Rul3 Rul4 Rul5 Rul6 St7 Fcf Rul7 Tl5 Gdc Opc Few5 Go.Joins Go.Deep
set_option linter.unusedVariables false

theorem own : ownKnob Try.prog.godebug = none := by kernel_rfl
theorem laidOut : laidOutB Try.prog = true := by kernel_rfl

attribute [local go_sem] run_store_float
theorem bits_lt {a : Int} (h : (Lit.int .u64 a).wf = true) : a.toNat < 18446744073709551616 := by
  have := u64_bd h
  omega
def MadeP (w : World) (e : Ending) (w' : World) : Prop :=
  ∃ (sh wi ra ta : Int) (NF : List (Int × Int)) (AF : List Int) (P : Int) (bb : Nat) (A B C : Option Addr) (c d f : Nat), GoodC sh wi ra ta NF AF [(P, 1, 9223372036854775807, bb)] ∧ 1 ≤ P ∧ P ≤ 1099511627776 ∧ rightB bb = true ∧
    e = .returned (.agg #[.int .i64 sh, .int .i64 wi, .int .i64 ra, .int .i64 ta, .slice A NF.length c, .slice B AF.length d, .slice C 1 f]) ∧ Nds w' w'.heap.size A NF ∧ Ris w' w'.heap.size B AF ∧ Smb w' w'.heap.size C [(P, 1, 9223372036854775807, bb)] ∧ Below w.heap.size w w'
theorem fixS_one (price : Int) (b : Nat) : ∃ P bb, fixS [(price, 0, -1, b)] = [(P, 1, 9223372036854775807, bb)] ∧ 1 ≤ P ∧ P ≤ 1099511627776 ∧ rightB bb = true := by
  have h := modF_bd (x := price) (m := 1099511627776) (by decide) (by decide)
  have h0 : modF 0 1099511627776 = 0 := by decide +kernel
  refine ⟨1 + modF price 1099511627776, if rightB b = true then b else 4602678819172646912, ?_, by omega, by omega, ?_⟩
  · show [oneS (price, 0, -1, b)] = _
    unfold oneS
    simp only []
    rw [h0, if_pos (by decide)]
    rfl
  · split
    · assumption
    · exact half_right
theorem fixp_any (price : Int) (b : Nat) (C : Option Addr) (w : World) (hs : Hid (Smb w w.heap.size C [(price, 0, -1, b)])) (hp : inI price) (hb : b < 18446744073709551616) :
    Calls Try.prog 18 #[.agg #[.int .i64 0, .int .i64 0, .int .i64 0, .int .i64 0, .slice none 0 0, .slice none 0 0, .slice C 1 1]] w (MadeP w) := by
  have hw : WfS [(price, 0, -1, b)] := by
    intro i hi
    have : i = 0 := by simp at hi; omega
    subst this
    exact ⟨hp, (show inI 0 from ⟨by decide, by decide⟩), (show inI (-1) from ⟨by decide, by decide⟩), hb⟩
  refine (fix5_any 0 0 0 0 none none C 0 0 1 [] [] [(price, 0, -1, b)] w Rd.nil Rd.nil hs (fun i hi => by simp at hi) (fun i hi => by simp at hi) hw (by decide) (by decide) (by simp)).mono ?_
  rintro e w' ⟨A, B, D, c, d, f, he, hn, ha, hs', hbl⟩
  have hg := good_fix 0 0 0 0 [] [] [(price, 0, -1, b)] hw
  obtain ⟨P, bb, hf, h1, h2, h3⟩ := fixS_one price b
  rw [hf] at he hs' hg
  exact ⟨_, _, _, _, _, _, P, bb, A, B, D, c, d, f, hg, h1, h2, h3, he, hn, ha, hs', hbl⟩
theorem lok_bad {AF : List Int} {P x : Int} {bb : Nat} (h : x < 1) : lokF AF [(P, 1, 9223372036854775807, bb)] 0 0 x 1 0 0 = (1, 0) := by
  unfold lokF
  rw [if_pos (.inl h)]
theorem lok_in {AF : List Int} {P x : Int} {bb : Nat} (ha : 1 ≤ AF.length) (h : 1 ≤ x) (h' : x ≤ 9223372036854775807) : lokF AF [(P, 1, 9223372036854775807, bb)] 0 0 x 1 0 0 = if witB P x bb = false then (8, 0) else (0, x) := by
  unfold lokF
  rw [if_neg (by omega), if_neg (by rw [inR_t (by omega) (by omega)]; decide), if_neg (by show ¬ (inR 1 0 = false); decide), if_neg (by show ¬ ((1 : Int) < 1); omega), if_neg (by rw [Int.mul_one]; simp [Fix.inB]; omega), if_neg (by rw [Int.mul_one]; show ¬ ((9223372036854775807 : Int) < x); omega), Int.mul_one]
  rfl
set_option maxHeartbeats 8000000 in
theorem inner (price x : Int) (bi : Int) (w : World) (hp : inI price) (hx : inI x) (hbi : bi.toNat < 18446744073709551616) :
    Calls Try.prog 5 #[.int .i64 price, .int .u64 bi, .int .i64 x] w (MadeB true w) := by
  have h18 := run18
  obtain ⟨hx0, hx1⟩ := id hx
  go_enter Try.func5, Try.ntmps5
  go_wp2_with fail
  generalize bi.toNat = b at *
  have b0 : Below w.heap.size w (w.alloc (.cells #[.int .i64 price, .int .i64 0, .int .i64 (-1), .float .f64 b] 58)) := (Below.refl _ _).alloc (Nat.le_refl _) _
  have s0 : Smb (w.alloc (.cells #[.int .i64 price, .int .i64 0, .int .i64 (-1), .float .f64 b] 58)) (w.alloc (.cells #[.int .i64 price, .int .i64 0, .int .i64 (-1), .float .f64 b] 58)).heap.size (some ⟨w.heap.size, 0, none⟩) [(price, 0, -1, b)] := (Blk.fresh _ _ _).rd' rfl
  refine (fixp_any price b _ _ s0 hp hbi).mono ?_
  rintro e w1 ⟨sh, wi, ra, ta, NF, AF, P, bb, A2, B2, C2, c2, d2, f2, hgood, hP1, hP2, hrb, rfl, n1, u1, s1, hb1⟩
  have hG := Lib.hid hgood
  have g1 := hgood.n2
  have g2 := hgood.a2
  have g3 := hgood.a1
  have hwn := Lib.hid hgood.wn
  have hws2 := Lib.hid hgood.ws
  clear hgood
  have b1 := CrdB.below_step b0 hb1
  have V2 : Hid (CfV (w1.alloc (.cells #[.int .i64 sh, .int .i64 wi, .int .i64 ra, .int .i64 ta, .slice A2 NF.length c2, .slice B2 AF.length d2, .slice C2 1 f2] 29)) w1.heap.size 29 A2 B2 C2 sh wi ra ta NF.length AF.length 1 c2 d2 f2 NF AF [(P, 1, 9223372036854775807, bb)]) := CfV.new n1 u1 s1
  have B2' : Hid (Below w.heap.size w (w1.alloc (.cells #[.int .i64 sh, .int .i64 wi, .int .i64 ra, .int .i64 ta, .slice A2 NF.length c2, .slice B2 AF.length d2, .slice C2 1 f2] 29))) := b1.alloc b1.size _
  clear b0 s0 hb1 n1 u1 s1 b1
  go_upto_region 2 with fail
  generalize w1.alloc (.cells #[.int .i64 sh, .int .i64 wi, .int .i64 ra, .int .i64 ta, .slice A2 NF.length c2, .slice B2 AF.length d2, .slice C2 1 f2] 29) = w2 at V2 B2' ⊢
  generalize w1.heap.size = gC at V2 ⊢
  obtain ⟨p, o, hC, hpb, hcc⟩ := Smb.at (i := 0) V2.out.smb (show 0 < 1 by decide)
  obtain ⟨z0, z1, z2, z3⟩ := hcc 0 (show 0 < 1 by decide)
  have m6 : w2.cell? ⟨gC, 6, none⟩ = some (.slice (some ⟨p, o, none⟩) 1 f2) := by rw [← hC]; exact V2.out.blk.cell 6
  have d0 : w2.cell? ⟨p, o, none⟩ = some (.int .i64 P) := z0
  have d1 : w2.cell? ⟨p, o + 1, none⟩ = some (.int .i64 1) := z1
  have d2' : w2.cell? ⟨p, o + 2, none⟩ = some (.int .i64 9223372036854775807) := z2
  have d3 : w2.cell? ⟨p, o + 3, none⟩ = some (.float .f64 bb) := z3
  have HC := Lib.hid hC
  clear hC hcc z0 z1 z2 z3
  have hlb := hws2.out 0 (show 0 < 1 by decide)
  have hbb : bb < 18446744073709551616 := hlb.2.2.2
  clear hlb
  have V3 : Hid (CfV (w2.alloc (.cells #[.int .i64 P, .int .i64 1, .int .i64 9223372036854775807, .float .f64 bb] 58)) gC 29 A2 B2 C2 sh wi ra ta NF.length AF.length 1 c2 d2 f2 NF AF [(P, 1, 9223372036854775807, bb)]) := V2.out.alloc _
  have B3 : Hid (Below w.heap.size w (w2.alloc (.cells #[.int .i64 P, .int .i64 1, .int .i64 9223372036854775807, .float .f64 bb] 58))) := B2'.out.alloc B2'.out.size _
  have k3 : Hid (Blk (w2.alloc (.cells #[.int .i64 P, .int .i64 1, .int .i64 9223372036854775807, .float .f64 bb] 58)) w2.heap.size 58 #[.int .i64 P, .int .i64 1, .int .i64 9223372036854775807, .float .f64 bb]) := Blk.fresh _ _ _
  go_upto_region 3 with fail
  clear m6 d0 d1 d2' d3 V2 B2'
  generalize w2.alloc (.cells #[.int .i64 P, .int .i64 1, .int .i64 9223372036854775807, .float .f64 bb] 58) = w3 at V3 B3 k3 ⊢
  generalize w2.heap.size = gS at k3 ⊢
  obtain ⟨m0, m1, m2, m3, m4, m5, m6⟩ := c7_of V3.out.blk
  go_wp2_with fail
  refine (to5_any sh wi ra ta A2 B2 C2 c2 d2 f2 NF AF [(P, 1, 9223372036854775807, bb)] _ V3.out.nds V3.out.ris V3.out.smb hwn (by omega) (by omega) (by simp)).mono ?_
  rintro e w4 ⟨A4, B4, C4, c4, d4, f4, rfl, n4, u4, s4, hb4⟩
  have b4 := Lib.hid (CrdB.below_step B3.out hb4)
  have k4 := Lib.hid (Blk.below' k3.out hb4)
  clear V3 B3 k3 hb4 m0 m1 m2 m3 m4 m5 m6
  go_wp2_with fail
  refine (look_any sh wi ra ta A4 B4 C4 c4 d4 f4 NF AF [(P, 1, 9223372036854775807, bb)] 0 0 false x 1 0 0 _ s4 hws2 hx ⟨by decide, by decide⟩ (by omega) (by simp)).mono ?_
  rintro e w5 ⟨rfl, hb5⟩
  have b5 := Lib.hid (CrdB.below_step b4.out hb5)
  have k5 := Lib.hid (Blk.below' k4.out hb5)
  clear b4 k4 hb5 n4 u4 s4
  have r0 : w5.cell? ⟨gS, 0, none⟩ = some (.int .i64 P) := k5.out.cell 0
  have r3 : w5.cell? ⟨gS, 3, none⟩ = some (.float .f64 bb) := k5.out.cell 3
  have hcol : colB P bb = true := colB_t hrb hP1 hP2
  have hwit : witB P x bb = (decide (colLo P bb ≤ x) && decide (x ≤ colHi P bb)) := by unfold witB; rw [hcol]; simp
  have hlok : 1 ≤ x → lokF AF [(P, 1, 9223372036854775807, bb)] 0 0 x 1 0 0 = if witB P x bb = false then (8, 0) else (0, x) := fun h => lok_in g3 h hx1
  have hlb : x < 1 → lokF AF [(P, 1, 9223372036854775807, bb)] 0 0 x 1 0 0 = (1, 0) := fun h => lok_bad h
  have HL := Lib.hid hlok
  have HB := Lib.hid hlb
  have HW := Lib.hid hwit
  clear hlok hlb hwit
  generalize lokF AF [(P, 1, 9223372036854775807, bb)] 0 0 x 1 0 0 = L at HL HB ⊢
  go_upto_region 5 with (go_at_call 25; refine (col_any P bb _ hbb).mono ?_; rintro e w' ⟨rfl, rfl⟩)
  generalize colLo P bb = lo at HW ⊢
  generalize colHi P bb = hi at HW ⊢
  clear r0 r3 k5
  go_wp2_with fail
  refine (told5_any _).mono ?_
  rintro e w6 ⟨rfl, hb6⟩
  have b6 := Lib.hid (CrdB.below_step b5.out hb6)
  clear b5 hb6
  by_cases hlt : x < 1
  · have t0 : decide (x < 1) = true := by simp; exact hlt
    rw [HB.out hlt]
    go_wp2_with fail
    go_ret
    exact madeB_mk rfl b6.out
  · have t0 : decide (x < 1) = false := by simp; omega
    have hl := HL.out (by omega)
    rw [HW.out] at hl
    by_cases h1 : lo ≤ x
    · by_cases h2 : x ≤ hi
      · have t1 : decide (lo ≤ x) = true := by simp; exact h1
        have t2 : decide (x ≤ hi) = true := by simp; exact h2
        have t3 : (x == x) = true := by simp
        rw [t1, t2, if_neg (by decide)] at hl
        rw [hl]
        go_wp2_with fail
        go_ret
        exact madeB_mk rfl b6.out
      · have t1 : decide (lo ≤ x) = true := by simp; exact h1
        have t2 : decide (x ≤ hi) = false := by simp; omega
        rw [t1, t2, if_pos (by decide)] at hl
        rw [hl]
        go_wp2_with fail
        go_ret
        exact madeB_mk rfl b6.out
    · have t1 : decide (lo ≤ x) = false := by simp; omega
      rw [t1, if_pos (by simp)] at hl
      rw [hl]
      go_wp2_with fail
      go_ret
      exact madeB_mk rfl b6.out

set_option maxRecDepth 100000 in
theorem lifted (os : Os) (started : os.Started) (H : Type) (enc : TypeId × Value → H) :
    ReturnsInHanded {} Try.checked os 5 .any (Rows.rulesPricesSpec.pre6 enc Try.prog Try.f5 Rows.rulesPricesRow.domain false) (Rows.rulesPricesSpec.post enc Try.prog Try.f5 false true false false) := by
  refine returnsInHanded_of_change (C := Try.checked) own started (by kernel_rfl) Try.func5
    (ChangeSpec.witness6 (enc := enc) (C := Try.checked) false ⟨#[], #[.int .i64 0, .int .u64 0, .int .i64 0], []⟩ 8 (by kernel_rfl) (by kernel_rfl) (by kernel_rfl) (by kernel_rfl)) ?_
  intro W base args ds gs before hval0 hW hcnd _
  have hval : ∀ (j : Nat) t v, Try.f5.params[j]? = some t → args[j]? = some v → Value.okWide Try.prog W .any base t v := hval0
  have hW' := hW
  obtain ⟨p, q, hA0, hV, rfl, hfz, hnd⟩ := hW
  have hA : DataW.TrodAll enc Try.prog W 0 (fun _ => true) true Try.f5.params.toList args.toList ds p := hA0
  rw [Try.params5] at hA hval
  obtain ⟨v0, vs0, d0, ds0, p0, q0, hargs, rfl, rfl, h0, r0⟩ := trodAll_cons hA
  obtain ⟨v1, vs1, d1, ds1, p1, q1, rfl, rfl, rfl, h1, r1⟩ := trodAll_cons r0
  obtain ⟨v2, vs2, d2, ds2, p2, q2, rfl, rfl, rfl, h2, r2⟩ := trodAll_cons r1
  obtain ⟨rfl, rfl, rfl⟩ := trodAll_nil r2
  obtain rfl : args = #[v0, v1, v2] := by cases args; simp_all
  obtain ⟨a0, rfl, _, _, w0⟩ := open_int Try.underlying2 (hval 0 2 v0 rfl rfl) h0
  obtain ⟨a1, rfl, _, _, w1⟩ := open_int Try.underlying54 (hval 1 54 v1 rfl rfl) h1
  obtain ⟨a2, rfl, _, _, w2⟩ := open_int Try.underlying2 (hval 2 2 v2 rfl rfl) h2
  refine (inner a0 a2 a1 W (wf_in w0) (wf_in w2) (bits_lt w1)).mono fun e W' ⟨he, hb⟩ => ?_
  subst he
  exact ⟨_, rfl, law_post hW' rfl rfl rfl rfl (by kernel_rfl) Try.underlying4 (by rw [Try.params5]; simp only [List.mem_cons, List.not_mem_nil, or_false, forall_eq_or_imp, forall_eq]; exact ⟨⟨by kernel_rfl, of_decide_eq_true (by kernel_rfl)⟩, ⟨by kernel_rfl, of_decide_eq_true (by kernel_rfl)⟩, ⟨by kernel_rfl, of_decide_eq_true (by kernel_rfl)⟩⟩) laidOut hb⟩

theorem over : Rows.rulesPricesRow.holds Try.pinned (OpenSpec.ofChange Rows.rulesPricesSpec) :=
  OpenClaim.holds_of_wide 5 Try.f5 rfl rfl rfl rfl rfl rfl rfl ⟨rfl, rfl, rfl, rfl, rfl⟩ rfl rfl rfl rfl rfl (by kernel_rfl) Try.func5 (by kernel_rfl)
    (of_decide_eq_true (by kernel_rfl)) (by unfold Func.isWrapper; first | (rw [if_pos (by decide +kernel)]; kernel_rfl) | (rw [if_neg (by decide +kernel)]; exact ⟨rfl, rfl⟩))
    (fun os started H enc _ => lifted os started H enc)

theorem proved : Rows.RulesPricesSaid := over
#print axioms proved
end Go.Proofs.Ytecjecgkioklaaa.rulesPrices
