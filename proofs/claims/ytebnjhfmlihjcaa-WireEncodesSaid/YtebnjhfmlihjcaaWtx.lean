/- The text of bytes in memory, also of none: over the seat's program. No condition. -/
import Derived.Test.YtebnjhfmlihjcaaWt6
namespace Go.Proofs.Ytebnjhfmlihjcaa.Wtx
set_option maxRecDepth 100000
open Go.RowKit Mem Wpl Wt6
theorem text_any {w : World} {B c : Nat} {A : Option Addr} {l : List UInt8} (h : By w B A l) : (convert 26 9 (.slice A l.length c)).run Try.prog w = .ok (.string ⟨l.toArray⟩) w := by
  by_cases h0 : 0 < l.length
  · exact text_of h h0
  · have hl : l = [] := List.eq_nil_of_length_eq_zero (by omega)
    subst hl
    cases A with
    | some a => exact run_convert_bytes_back w _ _ 5 a c [] Try.underlying26 Try.underlying5 Try.underlying9 (fun j hj => by simp at hj)
    | none =>
      show (convert 26 9 (.slice none 0 c)).run Try.prog w = _
      rw [run_convert_bytes_string w _ _ 5 none 0 c Try.underlying26 Try.underlying5 Try.underlying9]
      first | rfl | simp [Conv.bytesToString, Sem.run_pure]
end Go.Proofs.Ytebnjhfmlihjcaa.Wtx
