/-
  No cell of these rows narrows 'for every input' (looked for: loops, veiled, ifaces, maps, wideKeys, modest, calm, conditions, laid).
  DERIVED. THE GIVEN ROWS OF THIS SEAT. 3 by the template 'for every input the law returns true; each argument reads behind the call as it read before'; 0 by the template 'total and deterministic' (their statements: YtbpfeokheebmdaaTotals.lean).
  GIVEN WITH THE SEED: the statements are not yours to turn. If you find one false, say at which input.
  Laid BY PROGRAM, IN A SANDBOX (cutbox-rows.mjs): the forced cells as the released guide's own fill.sh prints them over the translation 9137a48cc1ed3c68… (all of the seat's roots in one cut). By AI agents, Wed Nov 11 2026. No macro, syntax, notation, axiom, sorry.
-/
import Derived.Test.YtbpfeokheebmdaaChecked
import GoSem.Claim
import GoSem.ClaimJoined
import GoSem.ClaimMapViews
import Derived.JoinedTies
import Derived.KernelRfl
namespace Go.Proofs.Ytbpfeokheebmdaa
/- THE CELL 'sum', in the pinned program and in every row, IS THE sha256 OF THE DUMP (.gsa) THAT YtbpfeokheebmdaaProg.lean LOADS. Nothing in Lean hashes anything: it is a label: what it is worth is what the hold of that sum in a sandbox is worth. -/
noncomputable def Try.pinned : Pinned := { name := "ytbpfeokheebmdaa", sum := "9137a48cc1ed3c684a581915f69b471b36b75eae689073eb943e573eec381ecc", checked := Try.checked }
namespace Rows
def none {H : Type} : Left H := { results := [], args := [] }

/-- 'stopgatelaw08.CellsActs': WHATEVER THE INPUT: true; the input reads as it did. -/
def cellsActsSpec : ChangeSpec := { name := "cellsActs", fn := fun _ => fun
  | [d] => { results := [.lit (.bool true)], args := [d] }
  | _ => none }
def cellsActsRow : OpenClaim := { program := "ytbpfeokheebmdaa", sum := "9137a48cc1ed3c684a581915f69b471b36b75eae689073eb943e573eec381ecc", func := "stopgate/stopgatelaw08.CellsActs", spec := "cellsActs", apart := false }
def CellsActsSaid : Prop := cellsActsRow.holds Try.pinned (OpenSpec.ofChange cellsActsSpec)

/-- ITS FALSE NEIGHBOUR: 'it returns false'. Refute it at one input. -/
def cellsActsWrong : ChangeSpec := { name := "cellsActs", fn := fun _ => fun
  | [d] => { results := [.lit (.bool false)], args := [d] }
  | _ => none }
def CellsActsWrongFalsely : Prop := cellsActsRow.holds Try.pinned (OpenSpec.ofChange cellsActsWrong)

/-- 'stopgatelaw08.CellsNews': WHATEVER THE INPUT: true; the input reads as it did. -/
def cellsNewsSpec : ChangeSpec := { name := "cellsNews", fn := fun _ => fun
  | [d1, d2] => { results := [.lit (.bool true)], args := [d1, d2] }
  | _ => none }
def cellsNewsRow : OpenClaim := { program := "ytbpfeokheebmdaa", sum := "9137a48cc1ed3c684a581915f69b471b36b75eae689073eb943e573eec381ecc", func := "stopgate/stopgatelaw08.CellsNews", spec := "cellsNews", apart := false }
def CellsNewsSaid : Prop := cellsNewsRow.holds Try.pinned (OpenSpec.ofChange cellsNewsSpec)

/-- ITS FALSE NEIGHBOUR: 'it returns false'. Refute it at one input. -/
def cellsNewsWrong : ChangeSpec := { name := "cellsNews", fn := fun _ => fun
  | [d1, d2] => { results := [.lit (.bool false)], args := [d1, d2] }
  | _ => none }
def CellsNewsWrongFalsely : Prop := cellsNewsRow.holds Try.pinned (OpenSpec.ofChange cellsNewsWrong)

/-- 'stopgatelaw08.CellsHolds': WHATEVER THE INPUT: true; the input reads as it did. -/
def cellsHoldsSpec : ChangeSpec := { name := "cellsHolds", fn := fun _ => fun
  | [d] => { results := [.lit (.bool true)], args := [d] }
  | _ => none }
def cellsHoldsRow : OpenClaim := { program := "ytbpfeokheebmdaa", sum := "9137a48cc1ed3c684a581915f69b471b36b75eae689073eb943e573eec381ecc", func := "stopgate/stopgatelaw08.CellsHolds", spec := "cellsHolds", apart := false }
def CellsHoldsSaid : Prop := cellsHoldsRow.holds Try.pinned (OpenSpec.ofChange cellsHoldsSpec)

/-- ITS FALSE NEIGHBOUR: 'it returns false'. Refute it at one input. -/
def cellsHoldsWrong : ChangeSpec := { name := "cellsHolds", fn := fun _ => fun
  | [d] => { results := [.lit (.bool false)], args := [d] }
  | _ => none }
def CellsHoldsWrongFalsely : Prop := cellsHoldsRow.holds Try.pinned (OpenSpec.ofChange cellsHoldsWrong)

/- THE SECOND FORM. 'bulk': how many values and letters a reading holds, each counted each time it is reached (what is shared counts as often as it is met; a slice's spare places count too). A statement '..UptoSaid' is the law's where the arguments, and the package variables that the reading takes, are together of bulk at most 1048576: NARROWER than '..Said'. Prove '..Said' where nothing that the law and all that it calls make is longer than what came in: it says more and counts as full. Else prove '..UptoSaid'. A law counts once. -/
mutual
def uptoBulk {H : Type} : DataW H → Nat
  | .lit (.string bytes) => bytes.length + 1
  | .lit _ => 1
  | .nil => 1
  | .ptr d => uptoBulk d + 1
  | .slice elems spare => uptoBulkAll elems + uptoBulkAll spare + 1
  | .agg parts => uptoBulkAll parts + 1
  | .iface _ d => uptoBulk d + 1
  | .map entries => uptoBulkEntries entries + 1
  | .held _ => 1
def uptoBulkAll {H : Type} : List (DataW H) → Nat
  | [] => 0
  | d :: r => uptoBulk d + uptoBulkAll r
def uptoBulkEntries {H : Type} : List (Lit × DataW H) → Nat
  | [] => 0
  | x :: r => uptoBulkEntry x + uptoBulkEntries r
def uptoBulkEntry {H : Type} : Lit × DataW H → Nat
  | (.string bytes, d) => bytes.length + uptoBulk d + 1
  | (_, d) => uptoBulk d + 1
 end
def uptoSmall : (H : Type) → List (DataW H) → Bool := fun _ ds => decide (uptoBulkAll ds ≤ 1048576)
def OpenSpec.upto (s : _root_.Go.ChangeSpec) : _root_.Go.OpenSpec := { _root_.Go.OpenSpec.ofChange s with cond := some uptoSmall }

/-- 'stopgatelaw08.CellsActs', WHERE WHAT IT READS IS OF BULK AT MOST 1048576: true; the input reads as it did. -/
def cellsActsUptoRow : OpenClaim := { program := "ytbpfeokheebmdaa", sum := "9137a48cc1ed3c684a581915f69b471b36b75eae689073eb943e573eec381ecc", func := "stopgate/stopgatelaw08.CellsActs", spec := "cellsActs", apart := false, narrowed := true }
def CellsActsUptoSaid : Prop := cellsActsUptoRow.holds Try.pinned (OpenSpec.upto cellsActsSpec)

/-- 'stopgatelaw08.CellsNews', WHERE WHAT IT READS IS OF BULK AT MOST 1048576: true; the input reads as it did. -/
def cellsNewsUptoRow : OpenClaim := { program := "ytbpfeokheebmdaa", sum := "9137a48cc1ed3c684a581915f69b471b36b75eae689073eb943e573eec381ecc", func := "stopgate/stopgatelaw08.CellsNews", spec := "cellsNews", apart := false, narrowed := true }
def CellsNewsUptoSaid : Prop := cellsNewsUptoRow.holds Try.pinned (OpenSpec.upto cellsNewsSpec)

/-- 'stopgatelaw08.CellsHolds', WHERE WHAT IT READS IS OF BULK AT MOST 1048576: true; the input reads as it did. -/
def cellsHoldsUptoRow : OpenClaim := { program := "ytbpfeokheebmdaa", sum := "9137a48cc1ed3c684a581915f69b471b36b75eae689073eb943e573eec381ecc", func := "stopgate/stopgatelaw08.CellsHolds", spec := "cellsHolds", apart := false, narrowed := true }
def CellsHoldsUptoSaid : Prop := cellsHoldsUptoRow.holds Try.pinned (OpenSpec.upto cellsHoldsSpec)

end Rows
end Go.Proofs.Ytbpfeokheebmdaa
