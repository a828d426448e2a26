/- The contracts of package tree: each call answers as the plain functions over lists of pairs say, and makes memory of its own alone. Condition: the list lies in memory, its numbers are of 64 bits. -/
import Derived.Test.YtjabfbeioapiaaaRows
import Derived.Test.YtjabfbeioapiaaaMem
import Derived.WalkKit
import Derived.ProofKit
import Derived.OpenShut
import Derived.Outline
import Derived.LoopTactic
import Derived.Deep.LoopGhost
import Derived.Lib.Hide
import Derived.BigQuiet
import Derived.Deep.QuietTactic
import Derived.OwnWalk
namespace Go.Proofs.Ytjabfbeioapiaaa.Tre
set_option maxRecDepth 100000
open Go.ChangeShapes Go.WideShapes Go.ChangeAt Go.RowKit Mem

/-! ### plain -/
def inR (n : Nat) (k : Int) : Bool := decide (0 ≤ k) && decide (k < n)
theorem inR_t {n : Nat} {k : Int} (h : 0 ≤ k) (h' : k < n) : inR n k = true := by unfold inR; simp [h, h']
theorem inR_f {n : Nat} {k : Int} (h : k < 0 ∨ n ≤ k) : inR n k = false := by unfold inR; simp; omega
theorem inR_of {n : Nat} {k : Int} (h : inR n k = true) : 0 ≤ k ∧ k < n := by unfold inR at h; simpa using h
def top (l : List (Int × Int)) : Nat → Nat → Bool
  | 0, _ => false
  | d + 1, a => nP l a == -1 || top l d (nP l a).toNat
def Par (l : List (Int × Int)) : Prop := ∀ i, i < l.length → -1 ≤ nP l i ∧ nP l i < l.length
def climbF (l : List (Int × Int)) : Nat → Nat → Int × Int
  | 0, _ => (0, -1)
  | g + 1, k => if top l 3 k then climbF l g (k + 1) else (16, k)
def scanF (l : List (Int × Int)) : Nat → Nat → Int × Int
  | 0, _ => climbF l l.length 0
  | g + 1, k => if nP l k = -1 ∨ inR l.length (nP l k) = true then (if 0 ≤ nC l k ∧ nC l k ≤ 4611686018427387904 then scanF l g (k + 1) else (1, k)) else (18, k)
def chk (l : List (Int × Int)) : Int × Int :=
  if 32 < l.length then (11, 0) else if l.length = 0 then (1, 0) else scanF l l.length 0
theorem top_m1 {l : List (Int × Int)} {g a : Nat} (h : nP l a = -1) : top l (g + 1) a = true := by unfold top; simp [h]
theorem top_up {l : List (Int × Int)} {g a : Nat} (h : (nP l a == -1) = false) : top l (g + 1) a = top l g (nP l a).toNat := by
  rw [top, h]; simp
def pathF (l : List (Int × Int)) : Nat → Int → List Int
  | 0, _ => []
  | g + 1, n => if inR l.length n then n :: pathF l g (nP l n.toNat) else []
def fitF (l : List (Int × Int)) : Nat → Int → Bool
  | 0, n => !inR l.length n
  | g + 1, n => if inR l.length n then fitF l g (nP l n.toNat) else true
theorem fit_top {l : List (Int × Int)} (hp : Par l) : ∀ (g a : Nat), a < l.length → fitF l g a = top l g a
  | 0, a, h => by simp [fitF, top, inR_t (n := l.length) (k := a) (by omega) (by omega)]
  | g + 1, a, h => by
    have hb := hp a h
    rw [fitF, if_pos (inR_t (by omega) (by omega)), Int.toNat_natCast]
    by_cases e : nP l a = -1
    · rw [top_m1 e, e]
      have : inR l.length (-1) = false := inR_f (by omega)
      cases g <;> simp [fitF, this]
    · have e' : (nP l a == -1) = false := by simp [e]
      rw [top_up e', ← fit_top hp g _ (by omega)]
      congr 1
      omega

def ToldB (b : Bool) (w : World) (e : Ending) (w' : World) : Prop := e = .returned (.bool b) ∧ w = w'
def Told2 (p : Int × Int) (w : World) (e : Ending) (w' : World) : Prop := e = .returned (.tuple #[.int .i64 p.1, .int .i64 p.2]) ∧ w = w'
def Made2 (p : Int × Int) (w : World) (e : Ending) (w' : World) : Prop := e = .returned (.tuple #[.int .i64 p.1, .int .i64 p.2]) ∧ Below w.heap.size w w'
theorem told2 {p : Int × Int} {a b : Int} {w : World} (h : p = (a, b)) : Told2 p w (.returned (.tuple #[.int .i64 a, .int .i64 b])) w := by subst h; exact ⟨rfl, rfl⟩
theorem made2 {p : Int × Int} {a b : Int} {w w' : World} (h : p = (a, b)) (hb : Below w.heap.size w w') : Made2 p w (.returned (.tuple #[.int .i64 a, .int .i64 b])) w' := by subst h; exact ⟨rfl, hb⟩

/-! ### the calls -/
theorem scan_18 {l : List (Int × Int)} {g k : Nat} (h : (nP l k != -1) = true) (h' : inR l.length (nP l k) = false) : scanF l (g + 1) k = (18, (k : Int)) := by
  rw [scanF, if_neg]; simp at h; simp [h, h']
theorem scan_1 {l : List (Int × Int)} {g k : Nat} (h : nP l k = -1 ∨ inR l.length (nP l k) = true) (h' : nC l k < 0 ∨ 4611686018427387904 < nC l k) : scanF l (g + 1) k = (1, (k : Int)) := by
  rw [scanF, if_pos h, if_neg (by omega)]
theorem scan_go {l : List (Int × Int)} {g k : Nat} (h : nP l k = -1 ∨ inR l.length (nP l k) = true) (h' : 0 ≤ nC l k) (h'' : nC l k ≤ 4611686018427387904) : scanF l (g + 1) k = scanF l g (k + 1) := by
  rw [scanF, if_pos h, if_pos ⟨h', h''⟩]

theorem int_info : (Try.prog.info? 3).map (fun i => (i.zero, i.size, i.bytes)) = some (some (.int .i64 0), 1, 8) := by kernel_rfl

/-- a list of numbers in new memory -/
def MadeI (xs : List Int) (w : World) (e : Ending) (w' : World) : Prop := ∃ A c, e = .returned (.slice A xs.length c) ∧ Ris w' w'.heap.size A xs ∧ Below w.heap.size w w'
theorem madeI_mk {xs ys : List Int} {A : Option Addr} {c : Nat} {w w' : World} (h : ys = xs) (hr : Ris w' w'.heap.size A xs) (hb : Below w.heap.size w w') : MadeI ys w (.returned (.slice A xs.length c)) w' := by
  subst h; exact ⟨A, c, rfl, hr, hb⟩
/-- the same, in blocks from w's end on -/
def MadeIF (xs : List Int) (w : World) (e : Ending) (w' : World) : Prop := ∃ A c, e = .returned (.slice A xs.length c) ∧ Ris w' w'.heap.size A xs ∧ (∀ a, A = some a → w.heap.size ≤ a.block) ∧ Below w.heap.size w w'
theorem madeIF_mk {xs ys : List Int} {A : Option Addr} {c : Nat} {w w' : World} (h : ys = xs) (hr : Ris w' w'.heap.size A xs) (hf : ∀ a, A = some a → w.heap.size ≤ a.block) (hb : Below w.heap.size w w') : MadeIF ys w (.returned (.slice A xs.length c)) w' := by
  subst h; exact ⟨A, c, rfl, hr, hf, hb⟩
theorem MadeIF.made {xs : List Int} {w w' : World} {e : Ending} (h : MadeIF xs w e w') : MadeI xs w e w' := by
  obtain ⟨A, c, he, hr, _, hb⟩ := h
  exact ⟨A, c, he, hr, hb⟩
theorem own_fresh {w : World} {base : Nat} {e : TypeId} {size n m c : Nat} {A : Option Addr} {xs : List Value} (h : w.ownsRow base e size (.slice A m c) n xs) : ∀ a, A = some a → base ≤ a.block := by
  rintro a rfl
  rcases h.2 with ⟨h1, _⟩ | ⟨g, cap, cur, h1, h2, _⟩
  · cases h1
  · injection h1 with h1; injection h1 with h1; subst h1; exact h2
theorem pathF_out {l : List (Int × Int)} {g : Nat} {n : Int} (h : inR l.length n = false) : pathF l g n = [] := by
  cases g <;> simp [pathF, h]
theorem pathF_in {l : List (Int × Int)} {g : Nat} {n : Int} (h : inR l.length n = true) : pathF l (g + 1) n = n :: pathF l g (nP l n.toNat) := by
  rw [pathF, if_pos h]

def MadeN (x : Int) (w : World) (e : Ending) (w' : World) : Prop := e = .returned (.int .i64 x) ∧ Below w.heap.size w w'
end Go.Proofs.Ytjabfbeioapiaaa.Tre
