/- slices.Repeat of a list of one number, as package cells calls it: so many of it, in a block of its own. Condition: at most 65536. -/
import Derived.Test.YtbpfeokheebmdaaCn
import Derived.Laws.CopyOwn
import Derived.Laws.MakeOwn
import Derived.Laws.Bits64b
namespace Go.Proofs.Ytbpfeokheebmdaa.Cx
set_option maxRecDepth 100000
open Go.ChangeShapes Go.WideShapes Go.ChangeAt Go.RowKit Mem Cel Cm Cn
set_option linter.unusedVariables false

theorem mask1 : bits .and .u64 1 4294967295 = 1 := by kernel_rfl
theorem maskY (y : Nat) (h : y < 4294967296) : bits .and .u64 (y : Int) 4294967295 = (y : Int) := by
  have e := bits_and_u64_nat y 4294967295 (by omega) (by omega)
  have e2 : y &&& 4294967295 = y % 4294967296 := Nat.and_two_pow_sub_one_eq_mod y 32
  rw [e2, Nat.mod_eq_of_lt h] at e
  exact e
theorem wrapU (y : Nat) (h : y < 4294967296) : IntKind.u64.wrap (y : Int) = (y : Int) := by rw [IntKind.wrap_u64]; omega
theorem divU (y : Nat) (h : y < 4294967296) : (y : Int) / 4294967296 = 0 := by omega
theorem mul64_1 (y : Nat) (hy : y < 4294967296) (w : World) : Calls Try.prog 27 #[.int .u64 1, .int .u64 y] w (ToldV (.tuple #[.int .u64 0, .int .u64 y]) w) := by
  have m1 := mask1
  have m2 := maskY y hy
  have m3 := wrapU y hy
  have m4 := divU y hy
  have m5 : IntKind.u64.wrap 0 = 0 := by kernel_rfl
  have m6 : bits .and .u64 0 4294967295 = 0 := by kernel_rfl
  go_enter Try.func27, Try.ntmps27
  go_wp2
  go_ret2
  exact toldV_mk (by simp [m1, m2, m3, m4, m5, m6])
theorem mul_1 (y : Nat) (hy : y < 4294967296) (w : World) : Calls Try.prog 25 #[.int .u64 1, .int .u64 y] w (ToldV (.tuple #[.int .u64 0, .int .u64 y]) w) := by
  have m3 := wrapU y hy
  have m7 : IntKind.u64.wrap 1 = 1 := by kernel_rfl
  go_enter Try.func25, Try.ntmps25
  go_wp2_with (go_at_call 27; refine (mul64_1 y hy _).mono ?_; rintro e w9 ⟨rfl, rfl⟩)
  go_ret2
  exact toldV_mk rfl
end Go.Proofs.Ytbpfeokheebmdaa.Cx
