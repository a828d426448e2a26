/- The contract of the law's few. Condition: the lengths are those of lists in memory. -/
import Derived.Test.YtkobldddiedmdaaSt7
import Derived.Test.YtkobldddiedmdaaLat
import Derived.Deep.DeepCutAuto
namespace Go.Proofs.Ytkobldddiedmdaa.Rul4
set_option maxRecDepth 100000
open Go.ChangeShapes Go.WideShapes Go.ChangeAt Go.RowKit Mem Tre Ref3 Law3 Fix3 Opn Bnd Flo Cfg Rul1 CrdB CrdC St7 Lat
set_option linter.unusedVariables false
set_option linter.unusedSimpArgs false
attribute [local go_sem] run_store_float

def cut (n m : Nat) : Nat := if m < n then m else n
theorem cut_le {n m : Nat} : cut n m ≤ n ∧ cut n m ≤ m := by unfold cut; split <;> omega
theorem cut_int {n m : Nat} : (if (m : Int) < (n : Int) then (m : Int) else (n : Int)) = ((cut n m : Nat) : Int) := by
  unfold cut
  by_cases h : m < n
  · rw [if_pos h, if_pos (by omega)]
  · rw [if_neg h, if_neg (by omega)]
theorem blk3 {W : World} {g : Nat} {te : TypeId} {v0 v1 v2 v3 v4 v5 v6 a b c : Value} (hk : Blk W g te #[v0, v1, v2, v3, v4, v5, v6]) : Blk (((W.setCell ⟨g, 4, none⟩ a).setCell ⟨g, 5, none⟩ b).setCell ⟨g, 6, none⟩ c).drew g te #[v0, v1, v2, v3, a, b, c] := by
  have k1 : Blk (W.setCell ⟨g, 4, none⟩ a) g te #[v0, v1, v2, v3, a, v5, v6] := blk_set hk 4 a
  have k2 : Blk ((W.setCell ⟨g, 4, none⟩ a).setCell ⟨g, 5, none⟩ b) g te #[v0, v1, v2, v3, a, b, v6] := blk_set k1 5 b
  have k3 : Blk (((W.setCell ⟨g, 4, none⟩ a).setCell ⟨g, 5, none⟩ b).setCell ⟨g, 6, none⟩ c) g te #[v0, v1, v2, v3, a, b, c] := blk_set k2 6 c
  exact k3
def MadeFew (sh wi ra ta : Int) (A B C : Option Addr) (n m k c d f : Nat) (w : World) (e : Ending) (w' : World) : Prop :=
  e = .returned (.agg #[.int .i64 sh, .int .i64 wi, .int .i64 ra, .int .i64 ta, .slice A n c, .slice B m d, .slice C k f]) ∧ Below w.heap.size w w'

end Go.Proofs.Ytkobldddiedmdaa.Rul4
