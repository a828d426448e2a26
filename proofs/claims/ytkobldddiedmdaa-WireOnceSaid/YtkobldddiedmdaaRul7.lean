/- The contract of the reference's Fix of a Config. Condition: the Config lies in memory, its numbers are of 64 bits. -/
import Derived.Test.YtkobldddiedmdaaFown
import Derived.Test.YtkobldddiedmdaaRul6
import Derived.Test.YtkobldddiedmdaaLat
namespace Go.Proofs.Ytkobldddiedmdaa.Rul7
set_option maxRecDepth 100000
open Go.ChangeShapes Go.WideShapes Go.ChangeAt Go.RowKit Mem Tre Ref3 Law3 Fix3 Opn Bnd Flo Cfg CrdB CrdC Rr4 Fr4 St7 Rul6 Fcf Fown Lat
set_option linter.unusedVariables false
set_option linter.unusedSimpArgs false
attribute [local go_sem] run_store_float

theorem s5_of {W : World} {g : Nat} {te : TypeId} {v0 v1 v2 v3 v4 v5 v6 : Value} (hk : Blk W g te #[v0, v1, v2, v3, v4, v5, v6]) :
    W.cell? ⟨g, 0, none⟩ = some v0 ∧ W.cell? ⟨g, 1, none⟩ = some v1 ∧ W.cell? ⟨g, 2, none⟩ = some v2 ∧ W.cell? ⟨g, 3, none⟩ = some v3 ∧ W.cell? ⟨g, 4, none⟩ = some v4 :=
  ⟨hk.cell 0, hk.cell 1, hk.cell 2, hk.cell 3, hk.cell 4⟩
theorem s75_of {W : World} {g gZ : Nat} {te : TypeId} {v0 v1 v2 v3 v4 v5 v6 : Value} (hk : Blk W g te #[v0, v1, v2, v3, v4, v5, v6]) (hne : g ≠ gZ) : ∀ a b c d e f h : Value, (((((((W.setCell ⟨gZ, 0, none⟩ a).setCell ⟨gZ, 1, none⟩ b).setCell ⟨gZ, 2, none⟩ c).setCell ⟨gZ, 3, none⟩ d).setCell ⟨gZ, 4, none⟩ e).setCell ⟨gZ, 5, none⟩ f).setCell ⟨gZ, 6, none⟩ h).cell? ⟨g, 0, none⟩ = some v0 ∧ (((((((W.setCell ⟨gZ, 0, none⟩ a).setCell ⟨gZ, 1, none⟩ b).setCell ⟨gZ, 2, none⟩ c).setCell ⟨gZ, 3, none⟩ d).setCell ⟨gZ, 4, none⟩ e).setCell ⟨gZ, 5, none⟩ f).setCell ⟨gZ, 6, none⟩ h).cell? ⟨g, 1, none⟩ = some v1 ∧ (((((((W.setCell ⟨gZ, 0, none⟩ a).setCell ⟨gZ, 1, none⟩ b).setCell ⟨gZ, 2, none⟩ c).setCell ⟨gZ, 3, none⟩ d).setCell ⟨gZ, 4, none⟩ e).setCell ⟨gZ, 5, none⟩ f).setCell ⟨gZ, 6, none⟩ h).cell? ⟨g, 2, none⟩ = some v2 ∧ (((((((W.setCell ⟨gZ, 0, none⟩ a).setCell ⟨gZ, 1, none⟩ b).setCell ⟨gZ, 2, none⟩ c).setCell ⟨gZ, 3, none⟩ d).setCell ⟨gZ, 4, none⟩ e).setCell ⟨gZ, 5, none⟩ f).setCell ⟨gZ, 6, none⟩ h).cell? ⟨g, 3, none⟩ = some v3 ∧ (((((((W.setCell ⟨gZ, 0, none⟩ a).setCell ⟨gZ, 1, none⟩ b).setCell ⟨gZ, 2, none⟩ c).setCell ⟨gZ, 3, none⟩ d).setCell ⟨gZ, 4, none⟩ e).setCell ⟨gZ, 5, none⟩ f).setCell ⟨gZ, 6, none⟩ h).cell? ⟨g, 4, none⟩ = some v4 :=
  fun a b c d e f h => s5_of (st7_far (a := a) (b := b) (c := c) (d := d) (e := e) (f := f) (h := h) hk hne)
theorem own_oneI {w : World} {g : Nat} {te : TypeId} {base : Nat} {x : Int} (h : Blk w g te #[.int .i64 x]) (hb : base ≤ g) : w.ownsRow base te 1 (.slice (some ⟨g, 0, none⟩) 1 1) 1 (ints [x]) :=
  ⟨by simp [ints], .inr ⟨g, 1, #[.int .i64 x], rfl, hb, h, Nat.le_refl _, by unfold maxLen; omega, by simp, by simp [ints]⟩⟩
theorem one64 (x : Int) : wrap64 (1 + wrap64 ((IntKind.u64.wrap x).tmod 1099511627776)) = 1 + modF x 1099511627776 := by
  have := modF_bd (x := x) (m := 1099511627776) (by decide) (by decide)
  unfold modF at this ⊢
  generalize wrap64 ((IntKind.u64.wrap x).tmod 1099511627776) = y at this ⊢
  unfold wrap64
  omega
theorem mod_w (x : Int) (m : Int) : IntKind.i64.wrap ((IntKind.u64.wrap x).tmod m) = modF x m := by
  unfold modF wrap64
  rw [IntKind.wrap_i64]
theorem one_w {x m : Int} (h : 0 < m) (h' : m ≤ 1000) : IntKind.i64.wrap (1 + modF x m) = 1 + modF x m := by
  have := modF_bd (x := x) (m := m) h (by omega)
  rw [IntKind.wrap_i64]; omega

end Go.Proofs.Ytkobldddiedmdaa.Rul7
