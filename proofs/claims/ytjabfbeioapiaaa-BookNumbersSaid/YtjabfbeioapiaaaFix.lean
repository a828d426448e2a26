/- The contracts of package fixed and of its reference: each call answers the number where it fits 64 bits, else nothing. No condition but that each argument is a number of 64 bits. -/
import Derived.Test.YtjabfbeioapiaaaRows
import Derived.WalkKit
import Derived.ProofKit
import Derived.OpenShut
import Derived.Lib.Hide
namespace Go.Proofs.Ytjabfbeioapiaaa.Fix
set_option maxRecDepth 100000
open Go.ChangeShapes Go.WideShapes Go.ChangeAt Go.RowKit

/-- fits 64 bits -/
def inB (x : Int) : Bool := decide (-9223372036854775808 ≤ x ∧ x ≤ 9223372036854775807)
def numV (x : Int) : Int := if inB x then x else 0

theorem inB_t {x : Int} (h : -9223372036854775808 ≤ x) (h' : x ≤ 9223372036854775807) : inB x = true := by
  unfold inB; simp [h, h']
theorem inB_f {x : Int} (h : x < -9223372036854775808 ∨ 9223372036854775807 < x) : inB x = false := by
  unfold inB; simp; omega
theorem inB_of {x : Int} (h : inB x = true) : -9223372036854775808 ≤ x ∧ x ≤ 9223372036854775807 := by
  unfold inB at h; simpa using h
theorem numV_t {x : Int} (h : inB x = true) : numV x = x := by unfold numV; simp [h]
theorem numV_f {x : Int} (h : inB x = false) : numV x = 0 := by unfold numV; simp [h]
theorem numV_lo (x : Int) : -9223372036854775808 ≤ numV x := by
  unfold numV; split
  · rename_i h; exact (inB_of h).1
  · omega
theorem numV_hi (x : Int) : numV x ≤ 9223372036854775807 := by
  unfold numV; split
  · rename_i h; exact (inB_of h).2
  · omega

def Told (x : Int) (w : Go.World) (e : Ending) (w' : Go.World) : Prop := e = .returned (.tuple #[.int .i64 (numV x), .bool (inB x)]) ∧ w = w'
def ToldB (b : Bool) (w : Go.World) (e : Ending) (w' : Go.World) : Prop := e = .returned (.bool b) ∧ w = w'

theorem told_t {x : Int} {w : Go.World} {y : Int} (h : -9223372036854775808 ≤ x) (h' : x ≤ 9223372036854775807) (hy : y = x) : Told x w (.returned (.tuple #[.int .i64 y, .bool true])) w := by
  have := inB_t h h'
  subst hy
  exact ⟨by rw [numV_t this, this], rfl⟩
theorem told_f {x : Int} {w : Go.World} (h : x < -9223372036854775808 ∨ 9223372036854775807 < x) : Told x w (.returned (.tuple #[.int .i64 0, .bool false])) w := by
  have := inB_f h
  exact ⟨by rw [numV_f this, this], rfl⟩

theorem told_no {x : Int} {w : Go.World} (h : inB x = false) : Told x w (.returned (.tuple #[.int .i64 0, .bool false])) w :=
  ⟨by rw [numV_f h, h], rfl⟩

theorem wf_lo {a : Int} (h : (Lit.int .i64 a).wf = true) : -9223372036854775808 ≤ a := by
  simp [Lit.wf] at h
  exact h.1
theorem wf_hi {a : Int} (h : (Lit.int .i64 a).wf = true) : a ≤ 9223372036854775807 := by
  simp [Lit.wf] at h
  exact h.2

theorem wr64 {x : Int} (h : -9223372036854775808 ≤ x) (h' : x ≤ 9223372036854775807) : wrap64 x = x := by
  unfold wrap64; omega
theorem toldB_mk {p : Prop} [Decidable p] {b : Bool} {w : Go.World} (h : p ↔ b = true) : ToldB b w (.returned (.bool (decide p))) w :=
  ⟨by congr 2; rw [Bool.eq_iff_iff]; simpa using h, rfl⟩
theorem inB_iff {x : Int} : inB x = true ↔ (-9223372036854775808 ≤ x ∧ x ≤ 9223372036854775807) := by unfold inB; simp
theorem le_quo {p q n : Int} (hp : 0 < p) : q ≤ n / p ↔ p * q ≤ n := by
  rw [Int.le_ediv_iff_mul_le hp, Int.mul_comm]
theorem quo_bd {p n : Int} (hp : 0 < p) (hn : 0 ≤ n) : 0 ≤ n / p ∧ n / p ≤ n :=
  ⟨Int.ediv_nonneg hn (by omega), Int.ediv_le_self _ hn⟩
theorem tdiv_pos {p n : Int} (hn : 0 ≤ n) : Int.tdiv n p = n / p := Int.tdiv_eq_ediv_of_nonneg hn
theorem tdiv_neg {p n : Int} (hn : 0 ≤ n) : Int.tdiv n p = -(n / (-p)) := by
  rw [← Int.neg_neg p, Int.tdiv_neg, tdiv_pos hn, Int.neg_neg]

def ToldU (x : Int) (w : Go.World) (e : Ending) (w' : Go.World) : Prop := e = .returned (.int .u64 x) ∧ w = w'
def ToldUU (x y : Int) (w : Go.World) (e : Ending) (w' : Go.World) : Prop := e = .returned (.tuple #[.int .u64 x, .int .u64 y]) ∧ w = w'

theorem u64_eq {a b : Int} {w : Go.World} (h : a = b) : ToldU b w (.returned (.int .u64 a)) w := ⟨by rw [h], rfl⟩
theorem uu_eq {a b c d : Int} {w : Go.World} (h : a = b) (h' : c = d) : ToldUU b d w (.returned (.tuple #[.int .u64 a, .int .u64 c])) w := ⟨by rw [h, h'], rfl⟩
theorem wide_hi (al ah bl bh : Int) (p : Int)
    (hp : p = ah * bh * 18446744073709551616 + (ah * bl + al * bh) * 4294967296 + al * bl) :
    ah * bh + (ah * bl + al * bl / 4294967296) / 4294967296 + (al * bh + (ah * bl + al * bl / 4294967296) % 4294967296) / 4294967296 = p / 18446744073709551616 ∧
    (al * bh + (ah * bl + al * bl / 4294967296)) % 4294967296 * 4294967296 + al * bl % 4294967296 = p % 18446744073709551616 := by
  generalize al * bl = q1 at *
  generalize ah * bl = q2 at *
  generalize al * bh = q3 at *
  generalize ah * bh = q4 at *
  omega
theorem prod_bd {a b : Int} (ha : 0 ≤ a) (ha' : a ≤ 4294967295) (hb : 0 ≤ b) (hb' : b ≤ 4294967295) : 0 ≤ a * b ∧ a * b ≤ 18446744065119617025 :=
  ⟨Int.mul_nonneg ha hb, Int.le_trans (Int.mul_le_mul ha' hb' hb (by omega)) (by omega)⟩
theorem wide_prod (x y al ah bl bh : Int) (h1 : x = ah * 4294967296 + al) (h2 : y = bh * 4294967296 + bl) :
    x * y = ah * bh * 18446744073709551616 + (ah * bl + al * bh) * 4294967296 + al * bl := by
  subst h1 h2
  simp only [Int.add_mul, Int.mul_add]
  have e1 : ah * 4294967296 * (bh * 4294967296) = ah * bh * 18446744073709551616 := by
    rw [Int.mul_assoc, Int.mul_left_comm 4294967296 bh, ← Int.mul_assoc]; rfl
  have e2 : ah * 4294967296 * bl = ah * bl * 4294967296 := by
    rw [Int.mul_assoc, Int.mul_comm 4294967296 bl, ← Int.mul_assoc]
  have e3 : al * (bh * 4294967296) = al * bh * 4294967296 := by rw [← Int.mul_assoc]
  omega
theorem abs_mul (a b : Int) : ((a.natAbs : Int) * (b.natAbs : Int)) = ((a * b).natAbs : Int) := by
  rw [Int.natAbs_mul]; simp
theorem sgn_same {a b : Int} (h : a < 0 ↔ b < 0) : 0 ≤ a * b := by
  by_cases ha : a < 0
  · have := Int.mul_pos (show 0 < -a by omega) (show 0 < -b by omega)
    rw [Int.neg_mul_neg] at this; omega
  · exact Int.mul_nonneg (by omega) (by omega)
theorem sgn_other {a b : Int} (h : ¬ (a < 0 ↔ b < 0)) : a * b ≤ 0 := by
  by_cases ha : a < 0
  · have := Int.mul_nonneg (show 0 ≤ -a by omega) (show 0 ≤ b by omega)
    rw [Int.neg_mul] at this; omega
  · have := Int.mul_nonneg (show 0 ≤ a by omega) (show 0 ≤ -b by omega)
    rw [Int.mul_neg] at this; omega

/-- what so many at a price are worth -/
def noB (a b : Int) : Bool := decide (0 ≤ a) && decide (0 ≤ b) && inB (a * b)
def noV (a b : Int) : Int := if noB a b then a * b else 0
def ToldN (a b : Int) (w : Go.World) (e : Ending) (w' : Go.World) : Prop := e = .returned (.tuple #[.int .i64 (noV a b), .bool (noB a b)]) ∧ w = w'
theorem noB_in {a b : Int} (h : 0 ≤ a) (h' : 0 ≤ b) : noB a b = inB (a * b) := by unfold noB; simp [h, h']
theorem noV_in {a b : Int} (h : 0 ≤ a) (h' : 0 ≤ b) : noV a b = numV (a * b) := by unfold noV numV; rw [noB_in h h']
theorem toldN_f {a b : Int} {w : Go.World} (h : a < 0 ∨ b < 0) : ToldN a b w (.returned (.tuple #[.int .i64 0, .bool false])) w := by
  have : noB a b = false := by unfold noB; rcases h with h | h <;> simp <;> omega
  exact ⟨by unfold noV; rw [this]; rfl, rfl⟩
theorem toldN_in {a b : Int} {w : Go.World} (h : 0 ≤ a) (h' : 0 ≤ b) : ToldN a b w (.returned (.tuple #[.int .i64 (numV (a * b)), .bool (inB (a * b))])) w :=
  ⟨by rw [noV_in h h', noB_in h h'], rfl⟩
end Go.Proofs.Ytjabfbeioapiaaa.Fix
