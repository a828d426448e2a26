/-
  No cell of these rows narrows 'for every input' (looked for: loops, veiled, ifaces, maps, wideKeys, modest, calm, conditions, laid).
  DERIVED. THE GIVEN ROWS OF THIS SEAT. 3 by the template 'for every input the law returns true; each argument reads behind the call as it read before'; 0 by the template 'total and deterministic' (their statements: YtaeddnjjeholgaaGreatTotals.lean).
  GIVEN WITH THE SEED: the statements are not yours to turn. If you find one false, say at which input.
  Laid BY PROGRAM, IN A SANDBOX (cutbox-rows.mjs): the forced cells as the released guide's own fill.sh prints them over the translation b162178f4c81e61c… (all of the seat's roots in one cut). By AI agents, Wed Nov 11 2026. No macro, syntax, notation, axiom, sorry.
-/
import Derived.Test.YtaeddnjjeholgaaGreatChecked
import GoSem.Claim
import GoSem.ClaimJoined
import GoSem.ClaimMapViews
import Derived.JoinedTies
import Derived.KernelRfl
namespace Go.Proofs.YtaeddnjjeholgaaGreat
/- THE CELL 'sum', in the pinned program and in every row, IS THE sha256 OF THE DUMP (.gsa) THAT YtaeddnjjeholgaaGreatProg.lean LOADS. Nothing in Lean hashes anything: it is a label: what it is worth is what the hold of that sum in a sandbox is worth. -/
noncomputable def Tryz.pinned : Pinned := { name := "ytaeddnjjeholgaagreat", sum := "b162178f4c81e61c56934f93399cba291445af475b86c019d2cee2e645520ca7", checked := Tryz.checked }
namespace Rows
def none {H : Type} : Left H := { results := [], args := [] }

/-- 'stopgatelaw11.GateNews': WHATEVER THE INPUT: true; the input reads as it did. -/
def gateNewsSpec : ChangeSpec := { name := "gateNews", fn := fun _ => fun
  | [d1, d2, d3] => { results := [.lit (.bool true)], args := [d1, d2, d3] }
  | _ => none }
def gateNewsRow : OpenClaim := { program := "ytaeddnjjeholgaagreat", sum := "b162178f4c81e61c56934f93399cba291445af475b86c019d2cee2e645520ca7", func := "stopgate/stopgatelaw11.GateNews", spec := "gateNews", inPlace := ["math.Float64frombits"], unfollowed := true, recurses := true, apart := false }
def GateNewsSaid : Prop := gateNewsRow.holds Tryz.pinned (OpenSpec.ofChange gateNewsSpec)

/-- ITS FALSE NEIGHBOUR: 'it returns false'. Refute it at one input. -/
def gateNewsWrong : ChangeSpec := { name := "gateNews", fn := fun _ => fun
  | [d1, d2, d3] => { results := [.lit (.bool false)], args := [d1, d2, d3] }
  | _ => none }
def GateNewsWrongFalsely : Prop := gateNewsRow.holds Tryz.pinned (OpenSpec.ofChange gateNewsWrong)

/-- 'stopgatelaw11.GateLimits': WHATEVER THE INPUT: true; the input reads as it did. -/
def gateLimitsSpec : ChangeSpec := { name := "gateLimits", fn := fun _ => fun
  | [d1, d2, d3] => { results := [.lit (.bool true)], args := [d1, d2, d3] }
  | _ => none }
def gateLimitsRow : OpenClaim := { program := "ytaeddnjjeholgaagreat", sum := "b162178f4c81e61c56934f93399cba291445af475b86c019d2cee2e645520ca7", func := "stopgate/stopgatelaw11.GateLimits", spec := "gateLimits", unfollowed := true, recurses := true, apart := false }
def GateLimitsSaid : Prop := gateLimitsRow.holds Tryz.pinned (OpenSpec.ofChange gateLimitsSpec)

/-- ITS FALSE NEIGHBOUR: 'it returns false'. Refute it at one input. -/
def gateLimitsWrong : ChangeSpec := { name := "gateLimits", fn := fun _ => fun
  | [d1, d2, d3] => { results := [.lit (.bool false)], args := [d1, d2, d3] }
  | _ => none }
def GateLimitsWrongFalsely : Prop := gateLimitsRow.holds Tryz.pinned (OpenSpec.ofChange gateLimitsWrong)

/-- 'stopgatelaw12.FloorNews': WHATEVER THE INPUT: true; the input reads as it did. -/
def floorNewsSpec : ChangeSpec := { name := "floorNews", fn := fun _ => fun
  | [d1, d2, d3] => { results := [.lit (.bool true)], args := [d1, d2, d3] }
  | _ => none }
def floorNewsRow : OpenClaim := { program := "ytaeddnjjeholgaagreat", sum := "b162178f4c81e61c56934f93399cba291445af475b86c019d2cee2e645520ca7", func := "stopgate/stopgatelaw12.FloorNews", spec := "floorNews", inPlace := ["math.Float64frombits"], unfollowed := true, recurses := true, apart := false }
def FloorNewsSaid : Prop := floorNewsRow.holds Tryz.pinned (OpenSpec.ofChange floorNewsSpec)

/-- ITS FALSE NEIGHBOUR: 'it returns false'. Refute it at one input. -/
def floorNewsWrong : ChangeSpec := { name := "floorNews", fn := fun _ => fun
  | [d1, d2, d3] => { results := [.lit (.bool false)], args := [d1, d2, d3] }
  | _ => none }
def FloorNewsWrongFalsely : Prop := floorNewsRow.holds Tryz.pinned (OpenSpec.ofChange floorNewsWrong)

/- THE SECOND FORM. 'bulk': how many values and letters a reading holds, each counted each time it is reached (what is shared counts as often as it is met; a slice's spare places count too). A statement '..UptoSaid' is the law's where the arguments, and the package variables that the reading takes, are together of bulk at most 1048576: NARROWER than '..Said'. Prove '..Said' where nothing that the law and all that it calls make is longer than what came in: it says more and counts as full. Else prove '..UptoSaid'. A law counts once. -/
mutual
def uptoBulk {H : Type} : DataW H → Nat
  | .lit (.string bytes) => bytes.length + 1
  | .lit _ => 1
  | .nil => 1
  | .ptr d => uptoBulk d + 1
  | .slice elems spare => uptoBulkAll elems + uptoBulkAll spare + 1
  | .agg parts => uptoBulkAll parts + 1
  | .iface _ d => uptoBulk d + 1
  | .map entries => uptoBulkEntries entries + 1
  | .held _ => 1
def uptoBulkAll {H : Type} : List (DataW H) → Nat
  | [] => 0
  | d :: r => uptoBulk d + uptoBulkAll r
def uptoBulkEntries {H : Type} : List (Lit × DataW H) → Nat
  | [] => 0
  | x :: r => uptoBulkEntry x + uptoBulkEntries r
def uptoBulkEntry {H : Type} : Lit × DataW H → Nat
  | (.string bytes, d) => bytes.length + uptoBulk d + 1
  | (_, d) => uptoBulk d + 1
 end
def uptoSmall : (H : Type) → List (DataW H) → Bool := fun _ ds => decide (uptoBulkAll ds ≤ 1048576)
def OpenSpec.upto (s : _root_.Go.ChangeSpec) : _root_.Go.OpenSpec := { _root_.Go.OpenSpec.ofChange s with cond := some uptoSmall }

/-- 'stopgatelaw11.GateNews', WHERE WHAT IT READS IS OF BULK AT MOST 1048576: true; the input reads as it did. -/
def gateNewsUptoRow : OpenClaim := { program := "ytaeddnjjeholgaagreat", sum := "b162178f4c81e61c56934f93399cba291445af475b86c019d2cee2e645520ca7", func := "stopgate/stopgatelaw11.GateNews", spec := "gateNews", inPlace := ["math.Float64frombits"], unfollowed := true, recurses := true, apart := false, narrowed := true }
def GateNewsUptoSaid : Prop := gateNewsUptoRow.holds Tryz.pinned (OpenSpec.upto gateNewsSpec)

/-- 'stopgatelaw11.GateLimits', WHERE WHAT IT READS IS OF BULK AT MOST 1048576: true; the input reads as it did. -/
def gateLimitsUptoRow : OpenClaim := { program := "ytaeddnjjeholgaagreat", sum := "b162178f4c81e61c56934f93399cba291445af475b86c019d2cee2e645520ca7", func := "stopgate/stopgatelaw11.GateLimits", spec := "gateLimits", unfollowed := true, recurses := true, apart := false, narrowed := true }
def GateLimitsUptoSaid : Prop := gateLimitsUptoRow.holds Tryz.pinned (OpenSpec.upto gateLimitsSpec)

/-- 'stopgatelaw12.FloorNews', WHERE WHAT IT READS IS OF BULK AT MOST 1048576: true; the input reads as it did. -/
def floorNewsUptoRow : OpenClaim := { program := "ytaeddnjjeholgaagreat", sum := "b162178f4c81e61c56934f93399cba291445af475b86c019d2cee2e645520ca7", func := "stopgate/stopgatelaw12.FloorNews", spec := "floorNews", inPlace := ["math.Float64frombits"], unfollowed := true, recurses := true, apart := false, narrowed := true }
def FloorNewsUptoSaid : Prop := floorNewsUptoRow.holds Tryz.pinned (OpenSpec.upto floorNewsSpec)

end Rows
end Go.Proofs.YtaeddnjjeholgaaGreat
