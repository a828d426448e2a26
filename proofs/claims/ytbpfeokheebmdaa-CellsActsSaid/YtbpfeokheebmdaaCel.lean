/- Cells in memory, and the contracts of package cells' calls that touch one: each answers as the plain functions on lists of numbers say, and writes its own three blocks alone. Condition: the Cells lie in memory, in three blocks of their own. -/
import Derived.Test.YtbpfeokheebmdaaRows
import Derived.Test.YtbpfeokheebmdaaMem
import Derived.WalkKit
import Derived.ProofKit
import Derived.OpenShut
import Derived.Outline
import Derived.LoopTactic
import Derived.Deep.LoopGhost
import Derived.Lib.Hide
import Derived.BigQuiet
import Derived.Deep.QuietTactic
import Derived.OwnWalk
import Derived.RegionTactic
import Derived.Deep.RegionLaw
import Derived.Deep.RegionHeld3
import Derived.Deep.DeepCutAuto
namespace Go.Proofs.Ytbpfeokheebmdaa.Cel
set_option maxRecDepth 100000
open Go.ChangeShapes Go.WideShapes Go.ChangeAt Go.RowKit Mem
set_option linter.unusedVariables false

/-! ### plain -/
def inR (n : Nat) (k : Int) : Bool := decide (0 ≤ k) && decide (k < n)
theorem inR_t {n : Nat} {k : Int} (h : 0 ≤ k) (h' : k < n) : inR n k = true := by unfold inR; simp [h, h']
theorem inR_f {n : Nat} {k : Int} (h : k < 0 ∨ n ≤ k) : inR n k = false := by unfold inR; simp; omega
theorem inR_of {n : Nat} {k : Int} (h : inR n k = true) : 0 ≤ k ∧ k < n := by unfold inR at h; simpa using h
structure S where
  ws : List Int
  hs : List Int
  t : Int
/-- a swap: what is answered, the list behind it, the time -/
def swF (xs : List Int) (t a old v : Int) : Bool × List Int × Int :=
  if inR xs.length a = true then (if gI xs a.toNat = old then (true, xs.set a.toNat v, wrap64 (t + 1)) else (false, xs, wrap64 (t + 1))) else (false, xs, t)
def loadF (s : S) (a : Int) : Int × S := if inR s.ws.length a = true then (gI s.ws a.toNat, ⟨s.ws, s.hs, wrap64 (s.t + 1)⟩) else (0, s)
def storeF (s : S) (a v : Int) : S := if inR s.ws.length a = true then ⟨s.ws.set a.toNat v, s.hs, wrap64 (s.t + 1)⟩ else s
def swapF (s : S) (a old v : Int) : Bool × S := ((swF s.ws s.t a old v).1, ⟨(swF s.ws s.t a old v).2.1, s.hs, (swF s.ws s.t a old v).2.2⟩)
def latF (s : S) (who a old v : Int) : Bool × S := if 0 ≤ who then ((swF s.hs s.t a old v).1, ⟨s.ws, (swF s.hs s.t a old v).2.1, (swF s.hs s.t a old v).2.2⟩) else (false, s)
def takeF (s : S) (who a : Int) : Bool × S := latF s who a (-1) who
def freeF (s : S) (who a : Int) : Bool × S := latF s who a who (-1)
def peekF (s : S) (a : Int) : Int := if inR s.ws.length a = true then gI s.ws a.toNat else 0
def holdF (s : S) (a : Int) : Int := if inR s.hs.length a = true then gI s.hs a.toNat else -1
/-- an access, of whatever kind: its two answers, and what is then -/
def stepF (s : S) (k who a old v : Int) : (Int × Bool) × S :=
  if k = 0 then (((loadF s a).1, false), (loadF s a).2) else if k = 1 then ((0, false), storeF s a v) else if k = 2 then ((0, (swapF s a old v).1), (swapF s a old v).2)
  else if k = 3 then ((0, (takeF s who a).1), (takeF s who a).2) else ((0, (freeF s who a).1), (freeF s who a).2)
theorem ints_set (xs : List Int) (i : Nat) (v : Int) : (ints xs).set i (.int .i64 v) = ints (xs.set i v) := by simp [ints]
theorem gI_lt {xs : List Int} {i : Nat} (h : i < xs.length) : (ints xs)[i]? = some (.int .i64 (gI xs i)) := by simp [ints, gI, h]
theorem sw_len (xs : List Int) (t a old v : Int) : (swF xs t a old v).2.1.length = xs.length := by
  unfold swF
  split
  · split <;> simp
  · rfl
theorem step_ws (s : S) (k who a old v : Int) : (stepF s k who a old v).2.ws.length = s.ws.length := by
  unfold stepF loadF storeF swapF takeF freeF latF
  repeat' split
  all_goals simp [sw_len]
theorem step_hs (s : S) (k who a old v : Int) : (stepF s k who a old v).2.hs.length = s.hs.length := by
  unfold stepF loadF storeF swapF takeF freeF latF
  repeat' split
  all_goals simp [sw_len]

/-! ### memory -/
theorem blk_set {w : World} {g : Nat} {te : TypeId} {cs : Array Value} (h : Blk w g te cs) (i : Nat) (u : Value) : Blk (w.setCell ⟨g, i, none⟩ u) g te (cs.setIfInBounds i u) := by
  unfold Blk at h ⊢
  simp [World.setCell, Array.getElem?_modify, h]
theorem blk_far {w : World} {g g' : Nat} {te : TypeId} {cs : Array Value} (h : Blk w g te cs) (hne : g ≠ g') {i : Nat} (u : Value) : Blk (w.setCell ⟨g', i, none⟩ u) g te cs :=
  (Below.heap_setCell w ⟨g', i, none⟩ u g hne).trans h
theorem below_step {a b c : World} (h : Below a.heap.size a b) (k : Below b.heap.size b c) : Below a.heap.size a c := h.trans (k.mono h.size)
theorem blk_ints_set {w : World} {g : Nat} {te : TypeId} {xs : List Int} (h : Blk w g te (ints xs).toArray) (i : Nat) (v : Int) : Blk (w.setCell ⟨g, i, none⟩ (.int .i64 v)) g te (ints (xs.set i v)).toArray := by
  have := blk_set h i (.int .i64 v)
  rwa [List.setIfInBounds_toArray, ints_set] at this
theorem blk_ints_cell {w : World} {g : Nat} {te : TypeId} {xs : List Int} (h : Blk w g te (ints xs).toArray) {i : Nat} (hi : i < xs.length) : w.cell? ⟨g, i, none⟩ = some (.int .i64 (gI xs i)) := by
  rw [h.cell]
  simpa using gI_lt hi

/-- only these three blocks may be written -/
structure Kept (g gw gh : Nat) (w w' : World) : Prop where
  os : w'.os = w.os
  tape : w'.tape = w.tape
  output : w'.output = w.output
  size : w.heap.size ≤ w'.heap.size
  block : ∀ k, k < w.heap.size → k ≠ g → k ≠ gw → k ≠ gh → w'.heap[k]? = w.heap[k]?
theorem Kept.refl (g gw gh : Nat) (w : World) : Kept g gw gh w w := ⟨rfl, rfl, rfl, Nat.le_refl _, fun _ _ _ _ _ => rfl⟩
theorem Kept.trans {g gw gh : Nat} {a b c : World} (h : Kept g gw gh a b) (k : Kept g gw gh b c) : Kept g gw gh a c :=
  ⟨k.os.trans h.os, k.tape.trans h.tape, k.output.trans h.output, Nat.le_trans h.size k.size, fun i hi h1 h2 h3 => (k.block i (Nat.lt_of_lt_of_le hi h.size) h1 h2 h3).trans (h.block i hi h1 h2 h3)⟩
theorem Kept.of_below {g gw gh : Nat} {w w' : World} (h : Below w.heap.size w w') : Kept g gw gh w w' := ⟨h.os, h.tape, h.output, h.size, fun k hk _ _ _ => h.block k hk⟩
theorem Kept.below {g gw gh B : Nat} {w w' : World} (h : Kept g gw gh w w') (hB : B ≤ w.heap.size) (h1 : B ≤ g) (h2 : B ≤ gw) (h3 : B ≤ gh) : Below B w w' :=
  ⟨h.os, h.tape, h.output, h.size, fun k hk => h.block k (by omega) (by omega) (by omega) (by omega)⟩
theorem Kept.setCell {g gw gh : Nat} {w w' : World} (h : Kept g gw gh w w') {p : Addr} (hp : p.block = g ∨ p.block = gw ∨ p.block = gh) (u : Value) : Kept g gw gh w (w'.setCell p u) :=
  h.trans ⟨rfl, rfl, rfl, by simp [World.setCell], fun k hk h1 h2 h3 => Below.heap_setCell _ _ _ _ (by omega)⟩
theorem Kept.blk {g gw gh k : Nat} {w w' : World} {te : TypeId} {cs : Array Value} (h : Kept g gw gh w w') (hk : Blk w k te cs) (h1 : k ≠ g) (h2 : k ≠ gw) (h3 : k ≠ gh) : Blk w' k te cs := (h.block k hk.lt h1 h2 h3).trans hk

/-- Cells in memory -/
structure Cs (w : World) (te : TypeId) (g gw gh : Nat) (s : S) : Prop where
  c : Blk w g te #[.slice (some ⟨gw, 0, none⟩) s.ws.length s.ws.length, .slice (some ⟨gh, 0, none⟩) s.hs.length s.hs.length, .int .i64 s.t]
  cw : Blk w gw 2 (ints s.ws).toArray
  ch : Blk w gh 3 (ints s.hs).toArray
  n1 : g ≠ gw
  n2 : g ≠ gh
  n3 : gw ≠ gh
theorem Cs.below {w w' : World} {te : TypeId} {g gw gh : Nat} {s : S} (h : Cs w te g gw gh s) (hb : Below w.heap.size w w') : Cs w' te g gw gh s :=
  ⟨h.c.below' hb, h.cw.below' hb, h.ch.below' hb, h.n1, h.n2, h.n3⟩
theorem Cs.kept {w w' : World} {te : TypeId} {g gw gh r rw rh : Nat} {s : S} (h : Cs w te g gw gh s) (hk : Kept r rw rh w w') (m : Nat) (hm : (g < m ∧ gw < m ∧ gh < m ∧ m ≤ r ∧ m ≤ rw ∧ m ≤ rh) ∨ (r < m ∧ rw < m ∧ rh < m ∧ m ≤ g ∧ m ≤ gw ∧ m ≤ gh)) : Cs w' te g gw gh s :=
  ⟨hk.blk h.c (by omega) (by omega) (by omega), hk.blk h.cw (by omega) (by omega) (by omega), hk.blk h.ch (by omega) (by omega) (by omega), h.n1, h.n2, h.n3⟩
/-- time and words as they are told -/
theorem Cs.setT {w : World} {te : TypeId} {g gw gh : Nat} {s : S} (h : Cs w te g gw gh s) (t : Int) : Cs (w.setCell ⟨g, 2, none⟩ (.int .i64 t)) te g gw gh ⟨s.ws, s.hs, t⟩ :=
  ⟨by have := blk_set h.c 2 (.int .i64 t); simpa using this, blk_far h.cw h.n1.symm _, blk_far h.ch h.n2.symm _, h.n1, h.n2, h.n3⟩
theorem Cs.setW {w : World} {te : TypeId} {g gw gh : Nat} {s : S} (h : Cs w te g gw gh s) (i : Nat) (v : Int) : Cs (w.setCell ⟨gw, i, none⟩ (.int .i64 v)) te g gw gh ⟨s.ws.set i v, s.hs, s.t⟩ :=
  ⟨by have := blk_far h.c h.n1 (i := i) (.int .i64 v); simpa using this, blk_ints_set h.cw i v, blk_far h.ch h.n3.symm _, h.n1, h.n2, h.n3⟩
theorem Cs.setH {w : World} {te : TypeId} {g gw gh : Nat} {s : S} (h : Cs w te g gw gh s) (i : Nat) (v : Int) : Cs (w.setCell ⟨gh, i, none⟩ (.int .i64 v)) te g gw gh ⟨s.ws, s.hs.set i v, s.t⟩ :=
  ⟨by have := blk_far h.c h.n2 (i := i) (.int .i64 v); simpa using this, blk_far h.cw h.n3 _, blk_ints_set h.ch i v, h.n1, h.n2, h.n3⟩
end Go.Proofs.Ytbpfeokheebmdaa.Cel
