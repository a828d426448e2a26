/- The contracts of package band and of its reference: each call answers by the rung of the fraction. Conditions stand at each theorem. -/
import Derived.Test.YtecjecgkioklaaaRows
import Derived.Test.YtecjecgkioklaaaFlo
import Derived.WalkKit
import Derived.ProofKit
import Derived.OpenShut
import Derived.Lib.Hide
import Derived.WalkLawsBesides
import Derived.Laws.Externs
namespace Go.Proofs.Ytecjecgkioklaaa.Bnd
set_option maxRecDepth 100000
open Go.ChangeShapes Go.WideShapes Go.ChangeAt Go.RowKit Flo

theorem run18 (n : Int) (w : Go.World) : (callFunc 24 #[.int .u64 n]).run Try.prog w = .ok (.value (.float .f64 n.toNat)) w :=
  run_callFunc_extern Try.func24 (by kernel_rfl) (by kernel_rfl) (by kernel_rfl) (e := Extern.MathFloatBits.float64frombits) (by kernel_rfl) _ w
theorem right_any (b : Nat) (w : Go.World) :
    Calls Try.prog 57 #[.float .f64 b] w fun e w' => e = .returned (.bool (rightB b)) ∧ w = w' := by
  go_enter Try.func57, Try.ntmps57
  go_wp2
  go_ret
  exact ⟨rfl, rfl⟩
theorem rright_any (b : Nat) (w : Go.World) :
    Calls Try.prog 49 #[.float .f64 b] w fun e w' => e = .returned (.bool (rightB b)) ∧ w = w' := by
  go_enter Try.func49, Try.ntmps49
  go_wp2
  go_ret
  exact ⟨rfl, rfl⟩
theorem reach_hi (p : Int) (b r : Nat) (w : Go.World) (h : floatBits .mul .f64 (floatOfInt .f64 p) b = some r) (hg : (FloatKind.f64.format.order r 4787326403894837248 == some .gt) = true) :
    Calls Try.prog 58 #[.int .i64 p, .float .f64 b] w fun e w' => e = .returned (.int .i64 1099511627776) ∧ w = w' := by
  have hop : ∀ t w, (binOp .mul t (.float .f64 (floatOfInt .f64 p)) (.float .f64 b)).run Try.prog w = .ok (.float .f64 r) w := fun t w => run_float_arith w .mul t .f64 _ b r h
  clear h
  go_enter Try.func58, Try.ntmps58
  go_wp2_with (simp only [hop])
  go_ret
  exact ⟨rfl, rfl⟩
theorem reach_lo (p : Int) (b r : Nat) (n : Int) (w : Go.World) (h : floatBits .mul .f64 (floatOfInt .f64 p) b = some r) (hg : (FloatKind.f64.format.order r 4787326403894837248 == some .gt) = false)
    (hn : floatToIntVal .f64 r .i64 = some n) :
    Calls Try.prog 58 #[.int .i64 p, .float .f64 b] w fun e w' => e = .returned (.int .i64 n) ∧ w = w' := by
  have hop : ∀ t w, (binOp .mul t (.float .f64 (floatOfInt .f64 p)) (.float .f64 b)).run Try.prog w = .ok (.float .f64 r) w := fun t w => run_float_arith w .mul t .f64 _ b r h
  have hc : ∀ w, (convert 55 2 (.float .f64 r)).run Try.prog w = .ok (.int .i64 n) w := fun w => run_convert_float_int w 55 2 .f64 .i64 r n (by rw [Try.underlying55]; rfl) Try.underlying2 hn
  clear h hn
  go_enter Try.func58, Try.ntmps58
  go_wp2_with (first | simp only [hop] | simp only [hc])
  go_ret
  exact ⟨rfl, rfl⟩
theorem far_hi (p : Int) (b r : Nat) (w : Go.World) (h : floatBits .mul .f64 (floatOfInt .f64 p) b = some r) (hg : (FloatKind.f64.format.order r 4787326403894837248 == some .gt || FloatKind.f64.format.order r 4787326403894837248 == some .eq) = true) :
    Calls Try.prog 105 #[.int .i64 p, .float .f64 b] w fun e w' => e = .returned (.int .i64 1099511627776) ∧ w = w' := by
  have hop : ∀ t w, (binOp .mul t (.float .f64 (floatOfInt .f64 p)) (.float .f64 b)).run Try.prog w = .ok (.float .f64 r) w := fun t w => run_float_arith w .mul t .f64 _ b r h
  clear h
  generalize hq : (FloatKind.f64.format.order r 4787326403894837248 == some .gt || FloatKind.f64.format.order r 4787326403894837248 == some .eq) = q at hg
  subst hg
  go_enter Try.func105, Try.ntmps105
  go_wp2_with (simp only [hop])
  go_ret
  exact ⟨rfl, rfl⟩
theorem far_lo (p : Int) (b r : Nat) (n : Int) (w : Go.World) (h : floatBits .mul .f64 (floatOfInt .f64 p) b = some r) (hg : (FloatKind.f64.format.order r 4787326403894837248 == some .gt) = false) (hg' : (FloatKind.f64.format.order r 4787326403894837248 == some .eq) = false)
    (hn : floatToIntVal .f64 r .i64 = some n) :
    Calls Try.prog 105 #[.int .i64 p, .float .f64 b] w fun e w' => e = .returned (.int .i64 n) ∧ w = w' := by
  have hop : ∀ t w, (binOp .mul t (.float .f64 (floatOfInt .f64 p)) (.float .f64 b)).run Try.prog w = .ok (.float .f64 r) w := fun t w => run_float_arith w .mul t .f64 _ b r h
  have hc : ∀ w, (convert 55 2 (.float .f64 r)).run Try.prog w = .ok (.int .i64 n) w := fun w => run_convert_float_int w 55 2 .f64 .i64 r n (by rw [Try.underlying55]; rfl) Try.underlying2 hn
  clear h hn
  go_enter Try.func105, Try.ntmps105
  go_wp2_with (first | simp only [hop] | simp only [hc])
  go_ret
  exact ⟨rfl, rfl⟩

/-- how far: the whole part of the product, but 2^40 where that is greater -/
def distR (R : Nat) : Int := if R40 < R then 1099511627776 else (D R : Int)
def dist (p : Int) (b : Nat) : Int := distR (PR (RP p.toNat) (rungOf b))
theorem distR_bd (R : Nat) : 0 ≤ distR R ∧ distR R ≤ 1099511627776 := by
  unfold distR; split
  · omega
  · have := D_le (R := R) (by omega); omega
theorem distR_mono {R S : Nat} (h : R ≤ S) : distR R ≤ distR S := by
  unfold distR; split
  · rw [if_pos (by omega)]; omega
  · split
    · have := D_le (R := R) (by omega); omega
    · have := D_mono h; omega
theorem dist_bd (p : Int) (b : Nat) : 0 ≤ dist p b ∧ dist p b ≤ 1099511627776 := distR_bd _
theorem dist_mono {p : Int} {b c : Nat} (h : rungOf b ≤ rungOf c) (hc : rungOf c ≤ INF) : dist p b ≤ dist p c := distR_mono (PR_mono h hc)
theorem frac_bd {b : Nat} (h : Frac b) : rungOf b ≤ INF := by
  obtain ⟨t, R, rfl, h1, _⟩ := h; rw [word_rung t R h1]; exact h1

/-- the product's word, and how it stands to 2^40 -/
theorem prod_word (p : Int) (b : Nat) (hp : 1 ≤ p) (hp' : p ≤ 1099511627776) (hb : Frac b) :
    ∃ t, floatBits .mul .f64 (floatOfInt .f64 p) b = some (Ieee.double.word t (PR (RP p.toNat) (rungOf b))) ∧ (t = true → PR (RP p.toNat) (rungOf b) = 0) := by
  obtain ⟨t, R, rfl, h1, h2⟩ := hb
  rw [word_rung t R h1, ofInt_word p (by omega)]
  have hr := RP_bd p.toNat (by omega) (by omega)
  exact ⟨t, mul_word _ R t hr.1 hr.2 h1 h2, fun h => by rw [h2 h, PR_zero]⟩
theorem ord40 (t : Bool) (R : Nat) (hR : R ≤ INF) (ht : t = true → R = 0) : FloatKind.f64.format.order (Ieee.double.word t R) 4787326403894837248 = some (compare R R40) := by
  have := order_word t false R R40 hR (by unfold R40 INF; omega) ht (by simp)
  exact this
theorem reach_any (p : Int) (b : Nat) (w : Go.World) (hp : 1 ≤ p) (hp' : p ≤ 1099511627776) (hb : Frac b) :
    Calls Try.prog 58 #[.int .i64 p, .float .f64 b] w fun e w' => e = .returned (.int .i64 (dist p b)) ∧ w = w' := by
  obtain ⟨t, h1, h2⟩ := prod_word p b hp hp' hb
  have hi := PR_inf (RP p.toNat) (rungOf b)
  unfold dist
  generalize PR (RP p.toNat) (rungOf b) = R at *
  have ho := ord40 t R hi h2
  by_cases hg : R40 < R
  · have e : distR R = 1099511627776 := by unfold distR; rw [if_pos hg]
    rw [e]
    exact reach_hi p b _ w h1 (by rw [ho, Nat.compare_eq_gt.2 hg]; rfl)
  · have e : distR R = D R := by unfold distR; rw [if_neg hg]
    rw [e]
    refine reach_lo p b _ _ w h1 ?_ (toIntVal_word t R (by omega) h2)
    rw [ho]
    by_cases he : R = R40
    · rw [he, Nat.compare_eq_eq.2 rfl]; rfl
    · rw [Nat.compare_eq_lt.2 (by omega)]; rfl
theorem far_any (p : Int) (b : Nat) (w : Go.World) (hp : 1 ≤ p) (hp' : p ≤ 1099511627776) (hb : Frac b) :
    Calls Try.prog 105 #[.int .i64 p, .float .f64 b] w fun e w' => e = .returned (.int .i64 (dist p b)) ∧ w = w' := by
  obtain ⟨t, h1, h2⟩ := prod_word p b hp hp' hb
  have hi := PR_inf (RP p.toNat) (rungOf b)
  unfold dist
  generalize PR (RP p.toNat) (rungOf b) = R at *
  have ho := ord40 t R hi h2
  by_cases hg : R40 < R
  · have e : distR R = 1099511627776 := by unfold distR; rw [if_pos hg]
    rw [e]
    exact far_hi p b _ w h1 (by rw [ho, Nat.compare_eq_gt.2 hg]; rfl)
  · by_cases he : R = R40
    · have e : distR R = 1099511627776 := by unfold distR; rw [if_neg hg, he, D_40]; rfl
      rw [e]
      exact far_hi p b _ w h1 (by rw [ho, Nat.compare_eq_eq.2 he]; rfl)
    · have e : distR R = D R := by unfold distR; rw [if_neg hg]
      rw [e]
      exact far_lo p b _ _ w h1 (by rw [ho, Nat.compare_eq_lt.2 (by omega)]; rfl) (by rw [ho, Nat.compare_eq_lt.2 (by omega)]; rfl) (toIntVal_word t R (by omega) h2)

/-! the collar -/
def colB (p : Int) (b : Nat) : Bool := rightB b && decide (1 ≤ p) && decide (p ≤ 1099511627776)
def colLo (p : Int) (b : Nat) : Int := if colB p b then max (p - dist p b) 1 else 0
def colHi (p : Int) (b : Nat) : Int := if colB p b then min (p + dist p b) 1099511627776 else 0
def ToldC (p : Int) (b : Nat) (w : Go.World) (e : Ending) (w' : Go.World) : Prop := e = .returned (.tuple #[.int .i64 (colLo p b), .int .i64 (colHi p b), .bool (colB p b)]) ∧ w = w'

theorem colB_t {p : Int} {b : Nat} (hr : rightB b = true) (hp : 1 ≤ p) (hp' : p ≤ 1099511627776) : colB p b = true := by unfold colB; simp [hr, hp, hp']
theorem colB_f {p : Int} {b : Nat} (h : rightB b = false ∨ p < 1 ∨ 1099511627776 < p) : colB p b = false := by
  unfold colB
  rcases h with h | h | h
  · simp [h]
  · have : ¬ 1 ≤ p := by omega
    simp [this]
  · have : ¬ p ≤ 1099511627776 := by omega
    simp [this]
theorem colB_of {p : Int} {b : Nat} (h : colB p b = true) : rightB b = true ∧ 1 ≤ p ∧ p ≤ 1099511627776 := by
  unfold colB at h; simp at h; exact ⟨h.1.1, h.1.2, h.2⟩
theorem toldC_mk {p lo hi : Int} {b : Nat} {w : Go.World} (hc : colB p b = true) (h1 : lo = max (p - dist p b) 1) (h2 : hi = min (p + dist p b) 1099511627776) :
    ToldC p b w (.returned (.tuple #[.int .i64 lo, .int .i64 hi, .bool true])) w := by
  refine ⟨?_, rfl⟩
  unfold colLo colHi
  rw [hc, h1, h2]; rfl
theorem toldC_no {p : Int} {b : Nat} {w : Go.World} (hc : colB p b = false) :
    ToldC p b w (.returned (.tuple #[.int .i64 0, .int .i64 0, .bool false])) w := by
  refine ⟨?_, rfl⟩
  unfold colLo colHi
  rw [hc]; rfl
theorem col_any (p : Int) (b : Nat) (w : Go.World) (hb : b < 18446744073709551616) :
    Calls Try.prog 25 #[.int .i64 p, .float .f64 b] w (ToldC p b w) := by
  by_cases hr : rightB b = true
  · have hf := (right_iff hb).1 hr
    have hd1 := (dist_bd p b).1
    have hd2 := (dist_bd p b).2
    by_cases hp : p < 1
    · have hc := Lib.hid (colB_f (p := p) (b := b) (Or.inr (Or.inl hp)))
      go_enter Try.func25, Try.ntmps25
      go_wp2_with (first | (go_at_call 57; refine (right_any _ _).mono ?_; rintro e w' ⟨rfl, rfl⟩))
      go_ret3
      exact toldC_no hc.out
    · by_cases hp' : 1099511627776 < p
      · have hc := Lib.hid (colB_f (p := p) (b := b) (Or.inr (Or.inr hp')))
        go_enter Try.func25, Try.ntmps25
        go_wp2_with (first | (go_at_call 57; refine (right_any _ _).mono ?_; rintro e w' ⟨rfl, rfl⟩))
        go_ret3
        exact toldC_no hc.out
      · have hc := Lib.hid (colB_t hr (p := p) (by omega) (by omega))
        go_enter Try.func25, Try.ntmps25
        go_wp2_with (first | (go_at_call 57; refine (right_any _ _).mono ?_; rintro e w' ⟨rfl, rfl⟩) | (go_at_call 58; refine (reach_any p b _ (by omega) (by omega) hf).mono ?_; rintro e w' ⟨rfl, rfl⟩))
        all_goals (go_ret3; exact toldC_mk hc.out (by omega) (by omega))
  · have hr : rightB b = false := by simpa using hr
    have hc := Lib.hid (colB_f (p := p) (Or.inl hr))
    go_enter Try.func25, Try.ntmps25
    go_wp2_with (first | (go_at_call 57; refine (right_any _ _).mono ?_; rintro e w' ⟨rfl, rfl⟩))
    go_ret3
    exact toldC_no hc.out
theorem rcol_any (p : Int) (b : Nat) (w : Go.World) (hb : b < 18446744073709551616) :
    Calls Try.prog 87 #[.int .i64 p, .float .f64 b] w (ToldC p b w) := by
  by_cases hr : rightB b = true
  · have hf := (right_iff hb).1 hr
    have hd1 := (dist_bd p b).1
    have hd2 := (dist_bd p b).2
    by_cases hp : p < 1
    · have hc := Lib.hid (colB_f (p := p) (b := b) (Or.inr (Or.inl hp)))
      go_enter Try.func87, Try.ntmps87
      go_wp2_with (first | (go_at_call 49; refine (rright_any _ _).mono ?_; rintro e w' ⟨rfl, rfl⟩))
      go_ret3
      exact toldC_no hc.out
    · by_cases hp' : 1099511627776 < p
      · have hc := Lib.hid (colB_f (p := p) (b := b) (Or.inr (Or.inr hp')))
        go_enter Try.func87, Try.ntmps87
        go_wp2_with (first | (go_at_call 49; refine (rright_any _ _).mono ?_; rintro e w' ⟨rfl, rfl⟩))
        go_ret3
        exact toldC_no hc.out
      · have hc := Lib.hid (colB_t hr (p := p) (by omega) (by omega))
        go_enter Try.func87, Try.ntmps87
        go_wp2_with (first | (go_at_call 49; refine (rright_any _ _).mono ?_; rintro e w' ⟨rfl, rfl⟩) | (go_at_call 105; refine (far_any p b _ (by omega) (by omega) hf).mono ?_; rintro e w' ⟨rfl, rfl⟩))
        all_goals (go_ret3; exact toldC_mk hc.out (by omega) (by omega))
  · have hr : rightB b = false := by simpa using hr
    have hc := Lib.hid (colB_f (p := p) (Or.inl hr))
    go_enter Try.func87, Try.ntmps87
    go_wp2_with (first | (go_at_call 49; refine (rright_any _ _).mono ?_; rintro e w' ⟨rfl, rfl⟩))
    go_ret3
    exact toldC_no hc.out

/-! within -/
def witB (p x : Int) (b : Nat) : Bool := colB p b && decide (colLo p b ≤ x) && decide (x ≤ colHi p b)
theorem ret_bool {a b : Bool} (h : a = b) : Ending.returned (.bool a) = .returned (.bool b) := by rw [h]
theorem wit_any (p x : Int) (b : Nat) (w : Go.World) (hb : b < 18446744073709551616) :
    Calls Try.prog 54 #[.int .i64 p, .int .i64 x, .float .f64 b] w fun e w' => e = .returned (.bool (witB p x b)) ∧ w = w' := by
  cases hc : colB p b with
  | false =>
    have hw : witB p x b = false := by unfold witB; simp [hc]
    rw [hw]
    clear hw
    go_enter Try.func54, Try.ntmps54
    go_wp2_with (first | (go_at_call 25; refine (col_any _ _ _ hb).mono ?_; rintro e w' ⟨rfl, rfl⟩))
    go_ret
    exact ⟨rfl, rfl⟩
  | true =>
    have hw : witB p x b = (decide (colLo p b ≤ x) && decide (x ≤ colHi p b)) := by unfold witB; simp [hc]
    rw [hw]
    clear hw
    by_cases h1 : colLo p b ≤ x
    · by_cases h2 : x ≤ colHi p b
      · have e : (decide (colLo p b ≤ x) && decide (x ≤ colHi p b)) = true := by simp [h1, h2]
        rw [e]; clear e
        go_enter Try.func54, Try.ntmps54
        go_wp2_with (first | (go_at_call 25; refine (col_any _ _ _ hb).mono ?_; rintro e w' ⟨rfl, rfl⟩))
        go_ret
        exact ⟨rfl, rfl⟩
      · have e : (decide (colLo p b ≤ x) && decide (x ≤ colHi p b)) = false := by simp [h2]
        rw [e]; clear e
        go_enter Try.func54, Try.ntmps54
        go_wp2_with (first | (go_at_call 25; refine (col_any _ _ _ hb).mono ?_; rintro e w' ⟨rfl, rfl⟩))
        go_ret
        exact ⟨ret_bool (by simp [h2]), rfl⟩
    · have e : (decide (colLo p b ≤ x) && decide (x ≤ colHi p b)) = false := by simp [h1]
      rw [e]; clear e
      go_enter Try.func54, Try.ntmps54
      go_wp2_with (first | (go_at_call 25; refine (col_any _ _ _ hb).mono ?_; rintro e w' ⟨rfl, rfl⟩))
      go_ret
      exact ⟨rfl, rfl⟩
theorem rwit_any (p x : Int) (b : Nat) (w : Go.World) (hb : b < 18446744073709551616) :
    Calls Try.prog 56 #[.int .i64 p, .int .i64 x, .float .f64 b] w fun e w' => e = .returned (.bool (witB p x b)) ∧ w = w' := by
  cases hc : colB p b with
  | false =>
    have hw : witB p x b = false := by unfold witB; simp [hc]
    rw [hw]
    clear hw
    go_enter Try.func56, Try.ntmps56
    go_wp2_with (first | (go_at_call 87; refine (rcol_any _ _ _ hb).mono ?_; rintro e w' ⟨rfl, rfl⟩))
    go_ret
    exact ⟨rfl, rfl⟩
  | true =>
    have hw : witB p x b = (decide (colLo p b ≤ x) && decide (x ≤ colHi p b)) := by unfold witB; simp [hc]
    rw [hw]
    clear hw
    by_cases h1 : colLo p b ≤ x
    · by_cases h2 : x ≤ colHi p b
      · have e : (decide (colLo p b ≤ x) && decide (x ≤ colHi p b)) = true := by simp [h1, h2]
        rw [e]; clear e
        go_enter Try.func56, Try.ntmps56
        go_wp2_with (first | (go_at_call 87; refine (rcol_any _ _ _ hb).mono ?_; rintro e w' ⟨rfl, rfl⟩))
        go_ret
        exact ⟨rfl, rfl⟩
      · have e : (decide (colLo p b ≤ x) && decide (x ≤ colHi p b)) = false := by simp [h2]
        rw [e]; clear e
        go_enter Try.func56, Try.ntmps56
        go_wp2_with (first | (go_at_call 87; refine (rcol_any _ _ _ hb).mono ?_; rintro e w' ⟨rfl, rfl⟩))
        go_ret
        exact ⟨ret_bool (by simp [h2]), rfl⟩
    · have e : (decide (colLo p b ≤ x) && decide (x ≤ colHi p b)) = false := by simp [h1]
      rw [e]; clear e
      go_enter Try.func56, Try.ntmps56
      go_wp2_with (first | (go_at_call 87; refine (rcol_any _ _ _ hb).mono ?_; rintro e w' ⟨rfl, rfl⟩))
      go_ret
      exact ⟨rfl, rfl⟩

/-! the same -/
def sameB (a b : Nat) : Bool := if rightB a && rightB b then FloatKind.f64.format.order a b == some .eq else rightB a == rightB b
theorem cmp_same {t s : Bool} {R S : Nat} (hR : R ≤ INF) (hS : S ≤ INF) (ht : t = true → R = 0) (hs : s = true → S = 0) :
    (FloatKind.f64.format.order (Ieee.double.word t R) (Ieee.double.word s S) == some .eq) = decide (R = S) := by
  rw [show FloatKind.f64.format = Ieee.double from rfl, order_word t s R S hR hS ht hs]
  by_cases h : R = S
  · rw [h, Nat.compare_eq_eq.2 rfl]; simp
  · have : compare R S ≠ .eq := fun g => h (Nat.compare_eq_eq.1 g)
    simp [h, this]
theorem same_self (a : Nat) (ha : a < 18446744073709551616) : sameB a a = true := by
  unfold sameB
  cases h : rightB a with
  | false => rfl
  | true =>
    obtain ⟨t, R, rfl, h1, h2⟩ := (right_iff ha).1 h
    show (FloatKind.f64.format.order _ _ == some .eq) = true
    rw [cmp_same h1 h1 h2 h2]; simp
theorem same_comm (a b : Nat) (ha : a < 18446744073709551616) (hb : b < 18446744073709551616) : sameB a b = sameB b a := by
  unfold sameB
  cases h : rightB a with
  | false => cases h' : rightB b <;> rfl
  | true =>
    cases h' : rightB b with
    | false => rfl
    | true =>
      obtain ⟨t, R, rfl, h1, h2⟩ := (right_iff ha).1 h
      obtain ⟨s, S, rfl, h3, h4⟩ := (right_iff hb).1 h'
      show (FloatKind.f64.format.order _ _ == some .eq) = (FloatKind.f64.format.order _ _ == some .eq)
      rw [cmp_same h1 h3 h2 h4, cmp_same h3 h1 h4 h2]
      congr 1
      exact propext ⟨Eq.symm, Eq.symm⟩
end Go.Proofs.Ytecjecgkioklaaa.Bnd
