/- The contracts of package band and of its reference: each call answers by the rung of the fraction. Conditions stand at each theorem. -/
import Derived.Test.YtjabfbeioapiaaaRows
import Derived.Test.YtjabfbeioapiaaaFlo
import Derived.WalkKit
import Derived.ProofKit
import Derived.OpenShut
import Derived.Lib.Hide
import Derived.WalkLawsBesides
import Derived.Laws.Externs
namespace Go.Proofs.Ytjabfbeioapiaaa.Bnd
set_option maxRecDepth 100000
open Go.ChangeShapes Go.WideShapes Go.ChangeAt Go.RowKit Flo

theorem run18 (n : Int) (w : Go.World) : (callFunc 25 #[.int .u64 n]).run Try.prog w = .ok (.value (.float .f64 n.toNat)) w :=
  run_callFunc_extern Try.func25 (by kernel_rfl) (by kernel_rfl) (by kernel_rfl) (e := Extern.MathFloatBits.float64frombits) (by kernel_rfl) _ w
theorem rright_any (b : Nat) (w : Go.World) :
    Calls Try.prog 15 #[.float .f64 b] w fun e w' => e = .returned (.bool (rightB b)) ∧ w = w' := by
  go_enter Try.func15, Try.ntmps15
  go_wp2
  go_ret
  exact ⟨rfl, rfl⟩
/-- how far: the whole part of the product, but 2^40 where that is greater -/
def distR (R : Nat) : Int := if R40 < R then 1099511627776 else (D R : Int)
def dist (p : Int) (b : Nat) : Int := distR (PR (RP p.toNat) (rungOf b))
theorem distR_bd (R : Nat) : 0 ≤ distR R ∧ distR R ≤ 1099511627776 := by
  unfold distR; split
  · omega
  · have := D_le (R := R) (by omega); omega
theorem distR_mono {R S : Nat} (h : R ≤ S) : distR R ≤ distR S := by
  unfold distR; split
  · rw [if_pos (by omega)]; omega
  · split
    · have := D_le (R := R) (by omega); omega
    · have := D_mono h; omega
theorem dist_bd (p : Int) (b : Nat) : 0 ≤ dist p b ∧ dist p b ≤ 1099511627776 := distR_bd _
theorem dist_mono {p : Int} {b c : Nat} (h : rungOf b ≤ rungOf c) (hc : rungOf c ≤ INF) : dist p b ≤ dist p c := distR_mono (PR_mono h hc)
theorem frac_bd {b : Nat} (h : Frac b) : rungOf b ≤ INF := by
  obtain ⟨t, R, rfl, h1, _⟩ := h; rw [word_rung t R h1]; exact h1

/-- the product's word, and how it stands to 2^40 -/
theorem prod_word (p : Int) (b : Nat) (hp : 1 ≤ p) (hp' : p ≤ 1099511627776) (hb : Frac b) :
    ∃ t, floatBits .mul .f64 (floatOfInt .f64 p) b = some (Ieee.double.word t (PR (RP p.toNat) (rungOf b))) ∧ (t = true → PR (RP p.toNat) (rungOf b) = 0) := by
  obtain ⟨t, R, rfl, h1, h2⟩ := hb
  rw [word_rung t R h1, ofInt_word p (by omega)]
  have hr := RP_bd p.toNat (by omega) (by omega)
  exact ⟨t, mul_word _ R t hr.1 hr.2 h1 h2, fun h => by rw [h2 h, PR_zero]⟩
theorem ord40 (t : Bool) (R : Nat) (hR : R ≤ INF) (ht : t = true → R = 0) : FloatKind.f64.format.order (Ieee.double.word t R) 4787326403894837248 = some (compare R R40) := by
  have := order_word t false R R40 hR (by unfold R40 INF; omega) ht (by simp)
  exact this
/-! the collar -/
def colB (p : Int) (b : Nat) : Bool := rightB b && decide (1 ≤ p) && decide (p ≤ 1099511627776)
def colLo (p : Int) (b : Nat) : Int := if colB p b then max (p - dist p b) 1 else 0
def colHi (p : Int) (b : Nat) : Int := if colB p b then min (p + dist p b) 1099511627776 else 0
def ToldC (p : Int) (b : Nat) (w : Go.World) (e : Ending) (w' : Go.World) : Prop := e = .returned (.tuple #[.int .i64 (colLo p b), .int .i64 (colHi p b), .bool (colB p b)]) ∧ w = w'

theorem colB_t {p : Int} {b : Nat} (hr : rightB b = true) (hp : 1 ≤ p) (hp' : p ≤ 1099511627776) : colB p b = true := by unfold colB; simp [hr, hp, hp']
theorem colB_f {p : Int} {b : Nat} (h : rightB b = false ∨ p < 1 ∨ 1099511627776 < p) : colB p b = false := by
  unfold colB
  rcases h with h | h | h
  · simp [h]
  · have : ¬ 1 ≤ p := by omega
    simp [this]
  · have : ¬ p ≤ 1099511627776 := by omega
    simp [this]
theorem colB_of {p : Int} {b : Nat} (h : colB p b = true) : rightB b = true ∧ 1 ≤ p ∧ p ≤ 1099511627776 := by
  unfold colB at h; simp at h; exact ⟨h.1.1, h.1.2, h.2⟩
theorem toldC_mk {p lo hi : Int} {b : Nat} {w : Go.World} (hc : colB p b = true) (h1 : lo = max (p - dist p b) 1) (h2 : hi = min (p + dist p b) 1099511627776) :
    ToldC p b w (.returned (.tuple #[.int .i64 lo, .int .i64 hi, .bool true])) w := by
  refine ⟨?_, rfl⟩
  unfold colLo colHi
  rw [hc, h1, h2]; rfl
theorem toldC_no {p : Int} {b : Nat} {w : Go.World} (hc : colB p b = false) :
    ToldC p b w (.returned (.tuple #[.int .i64 0, .int .i64 0, .bool false])) w := by
  refine ⟨?_, rfl⟩
  unfold colLo colHi
  rw [hc]; rfl
/-! within -/
def witB (p x : Int) (b : Nat) : Bool := colB p b && decide (colLo p b ≤ x) && decide (x ≤ colHi p b)
theorem ret_bool {a b : Bool} (h : a = b) : Ending.returned (.bool a) = .returned (.bool b) := by rw [h]
/-! the same -/
def sameB (a b : Nat) : Bool := if rightB a && rightB b then FloatKind.f64.format.order a b == some .eq else rightB a == rightB b
theorem cmp_same {t s : Bool} {R S : Nat} (hR : R ≤ INF) (hS : S ≤ INF) (ht : t = true → R = 0) (hs : s = true → S = 0) :
    (FloatKind.f64.format.order (Ieee.double.word t R) (Ieee.double.word s S) == some .eq) = decide (R = S) := by
  rw [show FloatKind.f64.format = Ieee.double from rfl, order_word t s R S hR hS ht hs]
  by_cases h : R = S
  · rw [h, Nat.compare_eq_eq.2 rfl]; simp
  · have : compare R S ≠ .eq := fun g => h (Nat.compare_eq_eq.1 g)
    simp [h, this]
theorem same_self (a : Nat) (ha : a < 18446744073709551616) : sameB a a = true := by
  unfold sameB
  cases h : rightB a with
  | false => rfl
  | true =>
    obtain ⟨t, R, rfl, h1, h2⟩ := (right_iff ha).1 h
    show (FloatKind.f64.format.order _ _ == some .eq) = true
    rw [cmp_same h1 h1 h2 h2]; simp
theorem same_comm (a b : Nat) (ha : a < 18446744073709551616) (hb : b < 18446744073709551616) : sameB a b = sameB b a := by
  unfold sameB
  cases h : rightB a with
  | false => cases h' : rightB b <;> rfl
  | true =>
    cases h' : rightB b with
    | false => rfl
    | true =>
      obtain ⟨t, R, rfl, h1, h2⟩ := (right_iff ha).1 h
      obtain ⟨s, S, rfl, h3, h4⟩ := (right_iff hb).1 h'
      show (FloatKind.f64.format.order _ _ == some .eq) = (FloatKind.f64.format.order _ _ == some .eq)
      rw [cmp_same h1 h3 h2 h4, cmp_same h3 h1 h4 h2]
      congr 1
      exact propext ⟨Eq.symm, Eq.symm⟩
end Go.Proofs.Ytjabfbeioapiaaa.Bnd
