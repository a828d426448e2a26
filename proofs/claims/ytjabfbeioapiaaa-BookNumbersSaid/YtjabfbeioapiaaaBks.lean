/- What book's calls answer, as plain functions on books. No program, no condition. -/
import Derived.Test.YtjabfbeioapiaaaBkp
namespace Go.Proofs.Ytjabfbeioapiaaa.Bks
set_option maxRecDepth 100000
open Go.ChangeShapes Go.WideShapes Go.RowKit Mem Tre Ref3 Law3 Bkp
set_option linter.unusedVariables false

def inQ (n : Nat) (k : Int) : Bool := decide (0 ≤ k ∧ k < n)
theorem inQ_t {n : Nat} {k : Int} (h : 0 ≤ k) (h' : k < n) : inQ n k = true := by unfold inQ; simp [h, h']
theorem inQ_f {n : Nat} {k : Int} (h : k < 0 ∨ n ≤ k) : inQ n k = false := by unfold inQ; simp; omega
theorem inQ_of {n : Nat} {k : Int} (h : inQ n k = true) : 0 ≤ k ∧ k < n := by unfold inQ at h; simpa using h
/-- the place of an open order; as many as there are: there is none -/
def posE : List En → Int → Nat
  | [], _ => 0
  | e :: l, id => if e.id = id then 0 else posE l id + 1
theorem posE_le (l : List En) (id : Int) : posE l id ≤ l.length := by
  induction l with
  | nil => exact Nat.le_refl _
  | cons e l ih =>
    unfold posE
    split
    · simp
    · simp only [List.length_cons]; omega
theorem posE_at (l : List En) (id : Int) (i : Nat) (h : ∀ j, j < i → (gE l j).id ≠ id) (hi : i < l.length) (he : (gE l i).id = id) : posE l id = i := by
  induction l generalizing i with
  | nil => simp at hi
  | cons e l ih =>
    unfold posE
    cases i with
    | zero => rw [if_pos (by simpa [gE] using he)]
    | succ i =>
      rw [if_neg (by have := h 0 (by omega); simpa [gE] using this)]
      rw [ih i (fun j hj => by have := h (j + 1) (by omega); simpa [gE] using this) (by simpa using hi) (by simpa [gE] using he)]
theorem posE_none (l : List En) (id : Int) (h : ∀ j, j < l.length → (gE l j).id ≠ id) : posE l id = l.length := by
  induction l with
  | nil => rfl
  | cons e l ih =>
    unfold posE
    rw [if_neg (by have := h 0 (by simp); simpa [gE] using this)]
    rw [ih (fun j hj => by have := h (j + 1) (by simpa using hj); simpa [gE] using this)]
    simp
theorem posE_id (l : List En) (id : Int) (h : posE l id < l.length) : (gE l (posE l id)).id = id := by
  induction l with
  | nil => simp at h
  | cons e l ih =>
    unfold posE at h ⊢
    split
    · rename_i he; simpa [gE] using he
    · rename_i he
      rw [if_neg he] at h
      have := ih (by simpa using h)
      simpa [gE] using this
def placeF (l : List En) (id : Int) : Int := if posE l id < l.length then (posE l id : Int) else -1
theorem placeF_t {l : List En} {id : Int} (h : posE l id < l.length) : placeF l id = posE l id := by unfold placeF; rw [if_pos h]
theorem placeF_f {l : List En} {id : Int} (h : ¬ posE l id < l.length) : placeF l id = -1 := by unfold placeF; rw [if_neg h]
/-- what is wrong with an order here -/
def lookF (ra ta : Int) (b : Bk) (o : Od) : Int :=
  if inQ b.rows.length o.a = true then
    (if (gR b.rows o.a.toNat).ns.contains o.n = true then 9
     else if o.t < (gR b.rows o.a.toNat).sec then 10
     else if o.t = (gR b.rows o.a.toNat).sec ∧ ra ≤ (gR b.rows o.a.toNat).cnt then 10
     else if ta ≤ b.op.length then 11 else 0)
  else 3
/-- a row behind an order -/
def usedF (r : Ro) (n t wi : Int) : Ro :=
  ⟨(r.ns ++ [n]).drop (r.ns.length + 1 - (max wi 0).toNat), t, (if r.sec = t then r.cnt else 0) + 1⟩
def addF (sk wi : Int) (b : Bk) (o : Od) (ep : Int) : Bk :=
  ⟨b.sh, b.ca + 1, b.rows.set o.a.toNat (usedF (gR b.rows o.a.toNat) o.n o.t wi), b.op ++ [⟨b.sh + sk * b.ca, o, o.q, 1, ep⟩]⟩
def delE (l : List En) (i : Nat) : List En := l.take i ++ l.drop (i + 1)
def setL (e : En) (x : Int) : En := ⟨e.id, e.o, x, e.st, e.ep⟩
def setS (e : En) (x : Int) : En := ⟨e.id, e.o, e.lf, x, e.ep⟩
def fillF (b : Bk) (id q : Int) : Bk × Int :=
  if q < 1 then (b, 1)
  else if posE b.op id < b.op.length then
    (if (gE b.op (posE b.op id)).lf < q then (b, 17)
     else if (gE b.op (posE b.op id)).lf - q = 0 then (⟨b.sh, b.ca, b.rows, delE b.op (posE b.op id)⟩, 0)
     else (⟨b.sh, b.ca, b.rows, b.op.set (posE b.op id) (setL (gE b.op (posE b.op id)) ((gE b.op (posE b.op id)).lf - q))⟩, 0))
  else (b, 15)
def ackF (b : Bk) (id : Int) : Bk × Int :=
  if posE b.op id < b.op.length then
    (if (gE b.op (posE b.op id)).st = 1 then (b, 16) else (⟨b.sh, b.ca, b.rows, delE b.op (posE b.op id)⟩, 0))
  else (b, 15)
def cancelF (b : Bk) (id : Int) : Bk × Int :=
  if posE b.op id < b.op.length then
    (if (gE b.op (posE b.op id)).st = 2 then (b, 16) else (⟨b.sh, b.ca, b.rows, b.op.set (posE b.op id) (setS (gE b.op (posE b.op id)) 2)⟩, 0))
  else (b, 15)
def plusF (sum p lf : Int) : Int := if p < 1 ∨ lf < 1 then sum else if (9223372036854775807 - sum) / lf < p then 9223372036854775807 else sum + p * lf
theorem plusF_in {sum p lf : Int} (h0 : 0 ≤ sum) (h1 : sum ≤ 9223372036854775807) : 0 ≤ plusF sum p lf ∧ plusF sum p lf ≤ 9223372036854775807 := by
  unfold plusF
  split
  · exact ⟨h0, h1⟩
  · rename_i h
    have hp : 1 ≤ p := by omega
    have hl : 1 ≤ lf := by omega
    split
    · omega
    · rename_i h2
      have h3 : p ≤ (9223372036854775807 - sum) / lf := by omega
      have h4 : p * lf ≤ 9223372036854775807 - sum := by
        have := Int.mul_le_mul_of_nonneg_right h3 (by omega : (0 : Int) ≤ lf)
        have h5 : (9223372036854775807 - sum) / lf * lf ≤ 9223372036854775807 - sum := Int.ediv_mul_le _ (by omega)
        omega
      have h5 : 0 ≤ p * lf := Int.mul_nonneg (by omega) (by omega)
      omega
def worthF : List En → Int → Int → Int
  | [], _, sum => sum
  | e :: l, a, sum => worthF l a (if e.o.a = a then plusF sum e.o.p e.lf else sum)
/-- a book that is not long, its numbers of 64 bits -/
structure FewB (b : Bk) : Prop where
  rl : b.rows.length ≤ 1000
  ol : b.op.length ≤ 1000
  nl : ∀ i, i < b.rows.length → (gR b.rows i).ns.length ≤ 1000
  sh : 0 ≤ b.sh ∧ b.sh ≤ 1000
  ca : 0 ≤ b.ca ∧ b.ca ≤ 1000000000
  cnt : ∀ i, i < b.rows.length → 0 ≤ (gR b.rows i).cnt ∧ (gR b.rows i).cnt ≤ 1000000000
  sec : ∀ i, i < b.rows.length → inI (gR b.rows i).sec
end Go.Proofs.Ytjabfbeioapiaaa.Bks
