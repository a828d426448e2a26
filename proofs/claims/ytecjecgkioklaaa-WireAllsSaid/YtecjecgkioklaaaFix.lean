/- The contracts of package fixed and of its reference: each call answers the number where it fits 64 bits, else nothing. No condition but that each argument is a number of 64 bits. -/
import Derived.Test.YtecjecgkioklaaaRows
import Derived.WalkKit
import Derived.ProofKit
import Derived.OpenShut
import Derived.Lib.Hide
namespace Go.Proofs.Ytecjecgkioklaaa.Fix
set_option maxRecDepth 100000
open Go.ChangeShapes Go.WideShapes Go.ChangeAt Go.RowKit

/-- fits 64 bits -/
def inB (x : Int) : Bool := decide (-9223372036854775808 ≤ x ∧ x ≤ 9223372036854775807)
def numV (x : Int) : Int := if inB x then x else 0

theorem inB_t {x : Int} (h : -9223372036854775808 ≤ x) (h' : x ≤ 9223372036854775807) : inB x = true := by
  unfold inB; simp [h, h']
theorem inB_f {x : Int} (h : x < -9223372036854775808 ∨ 9223372036854775807 < x) : inB x = false := by
  unfold inB; simp; omega
theorem inB_of {x : Int} (h : inB x = true) : -9223372036854775808 ≤ x ∧ x ≤ 9223372036854775807 := by
  unfold inB at h; simpa using h
theorem numV_t {x : Int} (h : inB x = true) : numV x = x := by unfold numV; simp [h]
theorem numV_f {x : Int} (h : inB x = false) : numV x = 0 := by unfold numV; simp [h]
theorem numV_lo (x : Int) : -9223372036854775808 ≤ numV x := by
  unfold numV; split
  · rename_i h; exact (inB_of h).1
  · omega
theorem numV_hi (x : Int) : numV x ≤ 9223372036854775807 := by
  unfold numV; split
  · rename_i h; exact (inB_of h).2
  · omega

def Told (x : Int) (w : Go.World) (e : Ending) (w' : Go.World) : Prop := e = .returned (.tuple #[.int .i64 (numV x), .bool (inB x)]) ∧ w = w'
def ToldB (b : Bool) (w : Go.World) (e : Ending) (w' : Go.World) : Prop := e = .returned (.bool b) ∧ w = w'

theorem told_t {x : Int} {w : Go.World} {y : Int} (h : -9223372036854775808 ≤ x) (h' : x ≤ 9223372036854775807) (hy : y = x) : Told x w (.returned (.tuple #[.int .i64 y, .bool true])) w := by
  have := inB_t h h'
  subst hy
  exact ⟨by rw [numV_t this, this], rfl⟩
theorem told_f {x : Int} {w : Go.World} (h : x < -9223372036854775808 ∨ 9223372036854775807 < x) : Told x w (.returned (.tuple #[.int .i64 0, .bool false])) w := by
  have := inB_f h
  exact ⟨by rw [numV_f this, this], rfl⟩

theorem told_no {x : Int} {w : Go.World} (h : inB x = false) : Told x w (.returned (.tuple #[.int .i64 0, .bool false])) w :=
  ⟨by rw [numV_f h, h], rfl⟩

theorem wf_lo {a : Int} (h : (Lit.int .i64 a).wf = true) : -9223372036854775808 ≤ a := by
  simp [Lit.wf] at h
  exact h.1
theorem wf_hi {a : Int} (h : (Lit.int .i64 a).wf = true) : a ≤ 9223372036854775807 := by
  simp [Lit.wf] at h
  exact h.2

theorem wr64 {x : Int} (h : -9223372036854775808 ≤ x) (h' : x ≤ 9223372036854775807) : wrap64 x = x := by
  unfold wrap64; omega
theorem toldB_mk {p : Prop} [Decidable p] {b : Bool} {w : Go.World} (h : p ↔ b = true) : ToldB b w (.returned (.bool (decide p))) w :=
  ⟨by congr 2; rw [Bool.eq_iff_iff]; simpa using h, rfl⟩
theorem inB_iff {x : Int} : inB x = true ↔ (-9223372036854775808 ≤ x ∧ x ≤ 9223372036854775807) := by unfold inB; simp
theorem le_quo {p q n : Int} (hp : 0 < p) : q ≤ n / p ↔ p * q ≤ n := by
  rw [Int.le_ediv_iff_mul_le hp, Int.mul_comm]
theorem quo_bd {p n : Int} (hp : 0 < p) (hn : 0 ≤ n) : 0 ≤ n / p ∧ n / p ≤ n :=
  ⟨Int.ediv_nonneg hn (by omega), Int.ediv_le_self _ hn⟩
theorem tdiv_pos {p n : Int} (hn : 0 ≤ n) : Int.tdiv n p = n / p := Int.tdiv_eq_ediv_of_nonneg hn
theorem tdiv_neg {p n : Int} (hn : 0 ≤ n) : Int.tdiv n p = -(n / (-p)) := by
  rw [← Int.neg_neg p, Int.tdiv_neg, tdiv_pos hn, Int.neg_neg]

theorem fits_pp (a b : Int) (w : Go.World) (ha : 0 < a) (ha' : a ≤ 9223372036854775807) (hb : 0 < b) (hb' : b ≤ 9223372036854775807) :
    Calls Try.prog 102 #[.int .i64 a, .int .i64 b] w (ToldB (inB (a * b)) w) := by
  have h1 : (a == 0) = false := by simp; omega
  have h2 : (b == 0) = false := by simp; omega
  go_enter Try.func102, Try.ntmps102
  go_wp2
  go_ret
  refine toldB_mk ?_
  have := Int.mul_pos ha hb
  rw [inB_iff, le_quo hb, Int.mul_comm]
  omega
theorem fits_pn (a b : Int) (w : Go.World) (ha : 0 < a) (ha' : a ≤ 9223372036854775807) (hb : b < 0) (hb' : -9223372036854775808 ≤ b) :
    Calls Try.prog 102 #[.int .i64 a, .int .i64 b] w (ToldB (inB (a * b)) w) := by
  have h1 : (a == 0) = false := by simp; omega
  have h2 : (b == 0) = false := by simp; omega
  go_enter Try.func102, Try.ntmps102
  go_wp2
  go_ret
  refine toldB_mk ?_
  have hq := quo_bd ha (show (0 : Int) ≤ 9223372036854775808 by omega)
  have hl := le_quo (q := -b) (n := 9223372036854775808) ha
  have hm := Int.mul_pos ha (show 0 < -b by omega)
  rw [Int.mul_neg] at hl hm
  rw [tdiv_pos (by omega), wr64 (by omega) (by omega), inB_iff]
  omega
theorem fits_np (a b : Int) (w : Go.World) (ha : a < 0) (ha' : -9223372036854775808 ≤ a) (hb : 0 < b) (hb' : b ≤ 9223372036854775807) :
    Calls Try.prog 102 #[.int .i64 a, .int .i64 b] w (ToldB (inB (a * b)) w) := by
  have h1 : (a == 0) = false := by simp; omega
  have h2 : (b == 0) = false := by simp; omega
  go_enter Try.func102, Try.ntmps102
  go_wp2
  go_ret
  refine toldB_mk ?_
  have hq := quo_bd hb (show (0 : Int) ≤ 9223372036854775808 by omega)
  have hl := le_quo (q := -a) (n := 9223372036854775808) hb
  have hm := Int.mul_pos hb (show 0 < -a by omega)
  rw [Int.mul_neg, Int.mul_comm b a] at hl hm
  rw [tdiv_pos (by omega), wr64 (by omega) (by omega), inB_iff]
  omega
theorem fits_nn (a b : Int) (w : Go.World) (ha : a < 0) (ha' : -9223372036854775808 ≤ a) (hb : b < 0) (hb' : -9223372036854775808 ≤ b) :
    Calls Try.prog 102 #[.int .i64 a, .int .i64 b] w (ToldB (inB (a * b)) w) := by
  have h1 : (a == 0) = false := by simp; omega
  have h2 : (b == 0) = false := by simp; omega
  go_enter Try.func102, Try.ntmps102
  go_wp2
  go_ret
  refine toldB_mk ?_
  have hq := quo_bd (show 0 < -b by omega) (show (0 : Int) ≤ 9223372036854775807 by omega)
  have hl := le_quo (q := -a) (n := 9223372036854775807) (show 0 < -b by omega)
  have hm := Int.mul_pos (show 0 < -b by omega) (show 0 < -a by omega)
  rw [Int.neg_mul_neg, Int.mul_comm b a] at hl hm
  rw [tdiv_neg (by omega), wr64 (by omega) (by omega), inB_iff]
  omega
theorem fits_z1 (b : Int) (w : Go.World) :
    Calls Try.prog 102 #[.int .i64 0, .int .i64 b] w (ToldB (inB (0 * b)) w) := by
  go_enter Try.func102, Try.ntmps102
  go_wp2
  go_ret
  exact ⟨by rw [Int.zero_mul]; rfl, rfl⟩
theorem fits_z2 (a : Int) (w : Go.World) (h1 : (a == 0) = false) :
    Calls Try.prog 102 #[.int .i64 a, .int .i64 0] w (ToldB (inB (a * 0)) w) := by
  go_enter Try.func102, Try.ntmps102
  go_wp2
  go_ret
  exact ⟨by rw [Int.mul_zero]; rfl, rfl⟩
theorem fits_any (a b : Int) (w : Go.World) (ha : -9223372036854775808 ≤ a) (ha' : a ≤ 9223372036854775807) (hb : -9223372036854775808 ≤ b) (hb' : b ≤ 9223372036854775807) :
    Calls Try.prog 102 #[.int .i64 a, .int .i64 b] w (ToldB (inB (a * b)) w) := by
  by_cases h : a = 0
  · subst h; exact fits_z1 b w
  by_cases h' : b = 0
  · subst h'; exact fits_z2 a w (by simpa using h)
  by_cases h1 : 0 < a
  · by_cases h2 : 0 < b
    · exact fits_pp a b w h1 ha' h2 hb'
    · exact fits_pn a b w h1 ha' (by omega) hb
  · by_cases h2 : 0 < b
    · exact fits_np a b w (by omega) ha h2 hb'
    · exact fits_nn a b w (by omega) ha (by omega) hb

theorem mul_any (a b : Int) (w : Go.World) (ha : -9223372036854775808 ≤ a) (ha' : a ≤ 9223372036854775807) (hb : -9223372036854775808 ≤ b) (hb' : b ≤ 9223372036854775807) :
    Calls Try.prog 85 #[.int .i64 a, .int .i64 b] w (Told (a * b) w) := by
  by_cases h : inB (a * b) = true
  · obtain ⟨h1, h2⟩ := inB_of h
    go_enter Try.func85, Try.ntmps85
    go_wp2_with (go_at_call 102; refine (fits_any a b _ ha ha' hb hb').mono ?_; rintro e w' ⟨rfl, rfl⟩)
    go_ret2
    exact told_t h1 h2 rfl
  · have h : inB (a * b) = false := by simpa using h
    go_enter Try.func85, Try.ntmps85
    go_wp2_with (go_at_call 102; refine (fits_any a b _ ha ha' hb hb').mono ?_; rintro e w' ⟨rfl, rfl⟩)
    go_ret2
    exact told_no h

def ToldU (x : Int) (w : Go.World) (e : Ending) (w' : Go.World) : Prop := e = .returned (.int .u64 x) ∧ w = w'
def ToldUU (x y : Int) (w : Go.World) (e : Ending) (w' : Go.World) : Prop := e = .returned (.tuple #[.int .u64 x, .int .u64 y]) ∧ w = w'

theorem u64_eq {a b : Int} {w : Go.World} (h : a = b) : ToldU b w (.returned (.int .u64 a)) w := ⟨by rw [h], rfl⟩
theorem uu_eq {a b c d : Int} {w : Go.World} (h : a = b) (h' : c = d) : ToldUU b d w (.returned (.tuple #[.int .u64 a, .int .u64 c])) w := ⟨by rw [h, h'], rfl⟩
theorem size_any (a : Int) (w : Go.World) (ha : -9223372036854775808 ≤ a) (ha' : a ≤ 9223372036854775807) :
    Calls Try.prog 104 #[.int .i64 a] w (ToldU (a.natAbs : Int) w) := by
  by_cases h : a < 0
  · go_enter Try.func104, Try.ntmps104
    go_wp2
    go_ret
    exact u64_eq (by omega)
  · go_enter Try.func104, Try.ntmps104
    go_wp2
    go_ret
    exact u64_eq (by omega)
theorem wide_hi (al ah bl bh : Int) (p : Int)
    (hp : p = ah * bh * 18446744073709551616 + (ah * bl + al * bh) * 4294967296 + al * bl) :
    ah * bh + (ah * bl + al * bl / 4294967296) / 4294967296 + (al * bh + (ah * bl + al * bl / 4294967296) % 4294967296) / 4294967296 = p / 18446744073709551616 ∧
    (al * bh + (ah * bl + al * bl / 4294967296)) % 4294967296 * 4294967296 + al * bl % 4294967296 = p % 18446744073709551616 := by
  generalize al * bl = q1 at *
  generalize ah * bl = q2 at *
  generalize al * bh = q3 at *
  generalize ah * bh = q4 at *
  omega
theorem wide_core (x y al ah bl bh : Int) (w : Go.World) (h1 : x % 4294967296 = al) (h2 : x / 4294967296 = ah) (h3 : y % 4294967296 = bl) (h4 : y / 4294967296 = bh)
    (hx : 0 ≤ x) (hx' : x ≤ 18446744073709551615) (hy : 0 ≤ y) (hy' : y ≤ 18446744073709551615)
    (p1 : 0 ≤ al * bl) (p1' : al * bl ≤ 18446744065119617025) (p2 : 0 ≤ ah * bl) (p2' : ah * bl ≤ 18446744065119617025)
    (p3 : 0 ≤ al * bh) (p3' : al * bh ≤ 18446744065119617025) (p4 : 0 ≤ ah * bh) (p4' : ah * bh ≤ 18446744065119617025) :
    Calls Try.prog 103 #[.int .u64 x, .int .u64 y] w (ToldUU (ah * bh + (ah * bl + al * bl / 4294967296) / 4294967296 + (al * bh + (ah * bl + al * bl / 4294967296) % 4294967296) / 4294967296) ((al * bh + (ah * bl + al * bl / 4294967296)) % 4294967296 * 4294967296 + al * bl % 4294967296) w) := by
  go_enter Try.func103, Try.ntmps103
  go_wp2
  exact bodyPost_ret (v := .tuple #[.int .u64 (ah * bh + (ah * bl + al * bl / 4294967296) / 4294967296 + (al * bh + (ah * bl + al * bl / 4294967296) % 4294967296) / 4294967296), .int .u64 ((al * bh + (ah * bl + al * bl / 4294967296)) % 4294967296 * 4294967296 + al * bl % 4294967296)]) (by simp [results, Try.results103, go_sem]) rfl ⟨rfl, rfl⟩
theorem prod_bd {a b : Int} (ha : 0 ≤ a) (ha' : a ≤ 4294967295) (hb : 0 ≤ b) (hb' : b ≤ 4294967295) : 0 ≤ a * b ∧ a * b ≤ 18446744065119617025 :=
  ⟨Int.mul_nonneg ha hb, Int.le_trans (Int.mul_le_mul ha' hb' hb (by omega)) (by omega)⟩
theorem wide_prod (x y al ah bl bh : Int) (h1 : x = ah * 4294967296 + al) (h2 : y = bh * 4294967296 + bl) :
    x * y = ah * bh * 18446744073709551616 + (ah * bl + al * bh) * 4294967296 + al * bl := by
  subst h1 h2
  simp only [Int.add_mul, Int.mul_add]
  have e1 : ah * 4294967296 * (bh * 4294967296) = ah * bh * 18446744073709551616 := by
    rw [Int.mul_assoc, Int.mul_left_comm 4294967296 bh, ← Int.mul_assoc]; rfl
  have e2 : ah * 4294967296 * bl = ah * bl * 4294967296 := by
    rw [Int.mul_assoc, Int.mul_comm 4294967296 bl, ← Int.mul_assoc]
  have e3 : al * (bh * 4294967296) = al * bh * 4294967296 := by rw [← Int.mul_assoc]
  omega
theorem wide_any (x y : Int) (w : Go.World)
    (hx : 0 ≤ x) (hx' : x ≤ 18446744073709551615) (hy : 0 ≤ y) (hy' : y ≤ 18446744073709551615) :
    Calls Try.prog 103 #[.int .u64 x, .int .u64 y] w (ToldUU (x * y / 18446744073709551616) (x * y % 18446744073709551616) w) := by
  have a1 : 0 ≤ x % 4294967296 ∧ x % 4294967296 ≤ 4294967295 := by omega
  have a2 : 0 ≤ x / 4294967296 ∧ x / 4294967296 ≤ 4294967295 := by omega
  have a3 : 0 ≤ y % 4294967296 ∧ y % 4294967296 ≤ 4294967295 := by omega
  have a4 : 0 ≤ y / 4294967296 ∧ y / 4294967296 ≤ 4294967295 := by omega
  have hp := wide_prod x y (x % 4294967296) (x / 4294967296) (y % 4294967296) (y / 4294967296) (by omega) (by omega)
  have hh := wide_hi (x % 4294967296) (x / 4294967296) (y % 4294967296) (y / 4294967296) (x * y) hp
  have p1 := prod_bd a1.1 a1.2 a3.1 a3.2
  have p2 := prod_bd a2.1 a2.2 a3.1 a3.2
  have p3 := prod_bd a1.1 a1.2 a4.1 a4.2
  have p4 := prod_bd a2.1 a2.2 a4.1 a4.2
  rw [← hh.1, ← hh.2]
  exact wide_core x y _ _ _ _ w rfl rfl rfl rfl hx hx' hy hy' p1.1 p1.2 p2.1 p2.2 p3.1 p3.2 p4.1 p4.2

theorem abs_mul (a b : Int) : ((a.natAbs : Int) * (b.natAbs : Int)) = ((a * b).natAbs : Int) := by
  rw [Int.natAbs_mul]; simp
theorem sgn_same {a b : Int} (h : a < 0 ↔ b < 0) : 0 ≤ a * b := by
  by_cases ha : a < 0
  · have := Int.mul_pos (show 0 < -a by omega) (show 0 < -b by omega)
    rw [Int.neg_mul_neg] at this; omega
  · exact Int.mul_nonneg (by omega) (by omega)
theorem sgn_other {a b : Int} (h : ¬ (a < 0 ↔ b < 0)) : a * b ≤ 0 := by
  by_cases ha : a < 0
  · have := Int.mul_nonneg (show 0 ≤ -a by omega) (show 0 ≤ b by omega)
    rw [Int.neg_mul] at this; omega
  · have := Int.mul_nonneg (show 0 ≤ a by omega) (show 0 ≤ -b by omega)
    rw [Int.mul_neg] at this; omega

theorem rmul_small (a b m : Int) (w : Go.World) (ha : -9223372036854775808 ≤ a) (ha' : a ≤ 9223372036854775807) (hb : -9223372036854775808 ≤ b) (hb' : b ≤ 9223372036854775807)
    (hm : ((a * b).natAbs : Int) = m) (hm1 : 0 ≤ m) (hm2 : m ≤ 18446744073709551615)
    (HW : ∀ w, Calls Try.prog 103 #[.int .u64 (a.natAbs : Int), .int .u64 (b.natAbs : Int)] w (ToldUU 0 m w)) :
    Calls Try.prog 86 #[.int .i64 a, .int .i64 b] w (Told (a * b) w) := by
  by_cases hs : a < 0 ↔ b < 0
  · have hd : (decide (a < 0) == decide (b < 0)) = true := by simp [hs]
    have hp := sgn_same hs
    have H : RowKit.Hid (a * b = m) := by show a * b = m; omega
    clear hm hp hs
    by_cases h2 : 9223372036854775807 < m
    · go_enter Try.func86, Try.ntmps86
      go_wp2_with (first | (go_at_call 104; refine (size_any _ _ (by omega) (by omega)).mono ?_; rintro e w' ⟨rfl, rfl⟩) | (go_at_call 103; refine (HW _).mono ?_; rintro e w' ⟨rfl, rfl⟩))
      go_ret2
      exact told_f (by have := H.out; omega)
    · go_enter Try.func86, Try.ntmps86
      go_wp2_with (first | (go_at_call 104; refine (size_any _ _ (by omega) (by omega)).mono ?_; rintro e w' ⟨rfl, rfl⟩) | (go_at_call 103; refine (HW _).mono ?_; rintro e w' ⟨rfl, rfl⟩))
      go_ret2
      exact told_t (by have := H.out; omega) (by have := H.out; omega) (by have := H.out; omega)
  · have hd : (decide (a < 0) == decide (b < 0)) = false := by simpa using hs
    have hp := sgn_other hs
    have H : RowKit.Hid (a * b = -m) := by show a * b = -m; omega
    clear hm hp hs
    by_cases h2 : 9223372036854775808 < m
    · go_enter Try.func86, Try.ntmps86
      go_wp2_with (first | (go_at_call 104; refine (size_any _ _ (by omega) (by omega)).mono ?_; rintro e w' ⟨rfl, rfl⟩) | (go_at_call 103; refine (HW _).mono ?_; rintro e w' ⟨rfl, rfl⟩))
      go_ret2
      exact told_f (by have := H.out; omega)
    · by_cases h4 : m = 0
      · subst h4
        go_enter Try.func86, Try.ntmps86
        go_wp2_with (first | (go_at_call 104; refine (size_any _ _ (by omega) (by omega)).mono ?_; rintro e w' ⟨rfl, rfl⟩) | (go_at_call 103; refine (HW _).mono ?_; rintro e w' ⟨rfl, rfl⟩))
        go_ret2
        exact told_t (by have := H.out; omega) (by have := H.out; omega) (by have := H.out; omega)
      · have h5 : 0 < m := by omega
        have h6 : (m == 0) = false := by simp; omega
        clear h4
        go_enter Try.func86, Try.ntmps86
        go_wp2_with (first | (go_at_call 104; refine (size_any _ _ (by omega) (by omega)).mono ?_; rintro e w' ⟨rfl, rfl⟩) | (go_at_call 103; refine (HW _).mono ?_; rintro e w' ⟨rfl, rfl⟩))
        go_ret2
        exact told_t (by have := H.out; omega) (by have := H.out; omega) (by have := H.out; omega)

theorem rmul_any (a b : Int) (w : Go.World) (ha : -9223372036854775808 ≤ a) (ha' : a ≤ 9223372036854775807) (hb : -9223372036854775808 ≤ b) (hb' : b ≤ 9223372036854775807) :
    Calls Try.prog 86 #[.int .i64 a, .int .i64 b] w (Told (a * b) w) := by
  have HW := fun w => wide_any (a.natAbs : Int) (b.natAbs : Int) w (by omega) (by omega) (by omega) (by omega)
  rw [abs_mul] at HW
  generalize hm : ((a * b).natAbs : Int) = m at HW
  have hm0 : 0 ≤ m := by omega
  by_cases hbig : 18446744073709551616 ≤ m
  · have n1 : ((m / 18446744073709551616 : Int) == 0) = false := by simp; omega
    have n2 : ((m / 18446744073709551616 : Int) != 0) = true := by simp; omega
    have H := Lib.hid hm; clear hm
    go_enter Try.func86, Try.ntmps86
    go_wp2_with (first | (go_at_call 104; refine (size_any _ _ (by omega) (by omega)).mono ?_; rintro e w' ⟨rfl, rfl⟩) | (go_at_call 103; refine (HW _).mono ?_; rintro e w' ⟨rfl, rfl⟩))
    go_ret2
    exact told_f (by have := H.out; omega)
  · have n0 : m / 18446744073709551616 = 0 := by omega
    have n1 : m % 18446744073709551616 = m := by omega
    simp only [n0, n1] at HW
    exact rmul_small a b m w ha ha' hb hb' hm hm0 (by omega) HW

/-- what so many at a price are worth -/
def noB (a b : Int) : Bool := decide (0 ≤ a) && decide (0 ≤ b) && inB (a * b)
def noV (a b : Int) : Int := if noB a b then a * b else 0
def ToldN (a b : Int) (w : Go.World) (e : Ending) (w' : Go.World) : Prop := e = .returned (.tuple #[.int .i64 (noV a b), .bool (noB a b)]) ∧ w = w'
theorem noB_in {a b : Int} (h : 0 ≤ a) (h' : 0 ≤ b) : noB a b = inB (a * b) := by unfold noB; simp [h, h']
theorem noV_in {a b : Int} (h : 0 ≤ a) (h' : 0 ≤ b) : noV a b = numV (a * b) := by unfold noV numV; rw [noB_in h h']
theorem toldN_f {a b : Int} {w : Go.World} (h : a < 0 ∨ b < 0) : ToldN a b w (.returned (.tuple #[.int .i64 0, .bool false])) w := by
  have : noB a b = false := by unfold noB; rcases h with h | h <;> simp <;> omega
  exact ⟨by unfold noV; rw [this]; rfl, rfl⟩
theorem toldN_in {a b : Int} {w : Go.World} (h : 0 ≤ a) (h' : 0 ≤ b) : ToldN a b w (.returned (.tuple #[.int .i64 (numV (a * b)), .bool (inB (a * b))])) w :=
  ⟨by rw [noV_in h h', noB_in h h'], rfl⟩
theorem not_any (a b : Int) (w : Go.World) (ha : -9223372036854775808 ≤ a) (ha' : a ≤ 9223372036854775807) (hb : -9223372036854775808 ≤ b) (hb' : b ≤ 9223372036854775807) :
    Calls Try.prog 53 #[.int .i64 a, .int .i64 b] w (ToldN a b w) := by
  by_cases h1 : a < 0
  · go_enter Try.func53, Try.ntmps53
    go_wp2
    go_ret2
    exact toldN_f (Or.inl h1)
  · by_cases h2 : b < 0
    · go_enter Try.func53, Try.ntmps53
      go_wp2
      go_ret2
      exact toldN_f (Or.inr h2)
    · go_enter Try.func53, Try.ntmps53
      go_wp2_with (first | (go_at_call 85; refine (mul_any _ _ _ ha ha' hb hb').mono ?_; rintro e w' ⟨rfl, rfl⟩))
      go_ret2
      exact toldN_in (by omega) (by omega)
theorem rnot_any (a b : Int) (w : Go.World) (ha : -9223372036854775808 ≤ a) (ha' : a ≤ 9223372036854775807) (hb : -9223372036854775808 ≤ b) (hb' : b ≤ 9223372036854775807) :
    Calls Try.prog 55 #[.int .i64 a, .int .i64 b] w (ToldN a b w) := by
  by_cases h1 : a < 0
  · go_enter Try.func55, Try.ntmps55
    go_wp2
    go_ret2
    exact toldN_f (Or.inl h1)
  · by_cases h2 : b < 0
    · go_enter Try.func55, Try.ntmps55
      go_wp2
      go_ret2
      exact toldN_f (Or.inr h2)
    · go_enter Try.func55, Try.ntmps55
      go_wp2_with (first | (go_at_call 86; refine (rmul_any _ _ _ ha ha' hb hb').mono ?_; rintro e w' ⟨rfl, rfl⟩))
      go_ret2
      exact toldN_in (by omega) (by omega)
end Go.Proofs.Ytecjecgkioklaaa.Fix
