/- Plain words for book: orders that are open, rows of accounts, a book; how they lie in memory. No program, no condition. -/
import Derived.Test.YtjabfbeioapiaaaLaw3

namespace Go.Proofs.Ytjabfbeioapiaaa.Bkp
set_option maxRecDepth 100000
open Go.ChangeShapes Go.WideShapes Go.RowKit Mem Tre Ref3 Law3
set_option linter.unusedVariables false

theorem blk_hd {w : World} {te : TypeId} {cs : Array Value} {g : Nat} (h : g = w.heap.size) : Blk (w.alloc (.cells cs te)) g te cs := by subst h; exact Blk.fresh _ _ _
/-- an order -/
structure Od where
  a : Int
  s : Int
  x : Bool
  p : Int
  q : Int
  n : Int
  t : Int
def odV (o : Od) : List Value := [.int .i64 o.a, .int .i64 o.s, .bool o.x, .int .i64 o.p, .int .i64 o.q, .int .i64 o.n, .int .i64 o.t]
def odA (o : Od) : Value := .agg #[.int .i64 o.a, .int .i64 o.s, .bool o.x, .int .i64 o.p, .int .i64 o.q, .int .i64 o.n, .int .i64 o.t]
def od0 : Od := ⟨0, 0, false, 0, 0, 0, 0⟩
def WfO (o : Od) : Prop := inI o.a ∧ inI o.s ∧ inI o.p ∧ inI o.q ∧ inI o.n ∧ inI o.t
/-- an open order -/
structure En where
  id : Int
  o : Od
  lf : Int
  st : Int
  ep : Int
def enV (e : En) : List Value := [.int .i64 e.id, .int .i64 e.o.a, .int .i64 e.o.s, .bool e.o.x, .int .i64 e.o.p, .int .i64 e.o.q, .int .i64 e.o.n, .int .i64 e.o.t, .int .i64 e.lf, .int .i64 e.st, .int .i64 e.ep]
def enA (e : En) : Value := .agg #[.int .i64 e.id, .int .i64 e.o.a, .int .i64 e.o.s, .bool e.o.x, .int .i64 e.o.p, .int .i64 e.o.q, .int .i64 e.o.n, .int .i64 e.o.t, .int .i64 e.lf, .int .i64 e.st, .int .i64 e.ep]
def en0 : En := ⟨0, od0, 0, 0, 0⟩
def gE (l : List En) (i : Nat) : En := l.getD i en0
def ens (l : List En) : List Value := l.flatMap enV
theorem ens_len (l : List En) : (ens l).length = l.length * 11 := by
  induction l with
  | nil => rfl
  | cons p l ih => simp [ens, enV] at ih ⊢; omega
theorem ens_app (l m : List En) : ens (l ++ m) = ens l ++ ens m := by simp [ens]
theorem ens_snoc (l : List En) (e : En) : ens (l ++ [e]) = ens l ++ enV e := by simp [ens]
theorem ens_one (l : List En) : ∀ u ∈ ens l, u.oneCell' = true := by
  intro u hu
  simp only [ens, List.mem_flatMap] at hu
  obtain ⟨e, _, he⟩ := hu
  simp only [enV, List.mem_cons, List.not_mem_nil, or_false] at he
  rcases he with rfl | rfl | rfl | rfl | rfl | rfl | rfl | rfl | rfl | rfl | rfl <;> rfl
theorem ens_get (l : List En) (i j : Nat) (hi : i < l.length) (hj : j < 11) : (ens l)[i * 11 + j]? = (enV (gE l i))[j]? := by
  induction l generalizing i with
  | nil => simp at hi
  | cons m l ih =>
    cases i with
    | zero =>
      show (enV m ++ ens l)[0 * 11 + j]? = (enV m)[j]?
      rw [List.getElem?_append_left (by simp [enV]; omega)]
      simp
    | succ i =>
      have h := ih i (by simpa using hi)
      show (enV m ++ ens l)[(i + 1) * 11 + j]? = (enV (gE l i))[j]?
      rw [List.getElem?_append_right (by simp [enV]; omega), ← h]
      congr 1
      simp [enV]
      omega
theorem ens_drop (l : List En) (k : Nat) : (ens l).drop (k * 11) = ens (l.drop k) := by
  induction k generalizing l with
  | zero => simp
  | succ k ih =>
    cases l with
    | nil => simp [ens]
    | cons e l =>
      have h : ens (e :: l) = enV e ++ ens l := rfl
      have e1 : (k + 1) * 11 = (enV e).length + k * 11 := by simp [enV]; omega
      rw [h, e1, List.drop_append, Nat.add_sub_cancel_left, ih]
      simp
theorem ens_take (l : List En) (k : Nat) : (ens l).take (k * 11) = ens (l.take k) := by
  induction k generalizing l with
  | zero => simp [ens]
  | succ k ih =>
    cases l with
    | nil => simp [ens]
    | cons e l =>
      have h : ens (e :: l) = enV e ++ ens l := rfl
      have e1 : (k + 1) * 11 = (enV e).length + k * 11 := by simp [enV]; omega
      rw [h, e1, List.take_append, Nat.add_sub_cancel_left, ih, List.take_of_length_le (by omega)]
      rfl
theorem Ens.at {w : World} {B : Nat} {A : Option Addr} {l : List En} (h : Rd w B A (ens l)) (hi : 0 < l.length) :
    ∃ b o, A = some ⟨b, o, none⟩ ∧ b < B ∧ ∀ j, j < l.length → w.cell? ⟨b, o + j * 11, none⟩ = some (.int .i64 (gE l j).id) ∧ w.cell? ⟨b, o + j * 11 + 1, none⟩ = some (.int .i64 (gE l j).o.a) ∧ w.cell? ⟨b, o + j * 11 + 2, none⟩ = some (.int .i64 (gE l j).o.s) ∧ w.cell? ⟨b, o + j * 11 + 3, none⟩ = some (.bool (gE l j).o.x) ∧ w.cell? ⟨b, o + j * 11 + 4, none⟩ = some (.int .i64 (gE l j).o.p) ∧ w.cell? ⟨b, o + j * 11 + 5, none⟩ = some (.int .i64 (gE l j).o.q) ∧ w.cell? ⟨b, o + j * 11 + 6, none⟩ = some (.int .i64 (gE l j).o.n) ∧ w.cell? ⟨b, o + j * 11 + 7, none⟩ = some (.int .i64 (gE l j).o.t) ∧ w.cell? ⟨b, o + j * 11 + 8, none⟩ = some (.int .i64 (gE l j).lf) ∧ w.cell? ⟨b, o + j * 11 + 9, none⟩ = some (.int .i64 (gE l j).st) ∧ w.cell? ⟨b, o + j * 11 + 10, none⟩ = some (.int .i64 (gE l j).ep) := by
  obtain ⟨b, o, hA, hb, hc⟩ := Rd.at h (by intro e; have := ens_len l; rw [e] at this; simp at this; omega)
  refine ⟨b, o, hA, hb, fun j hj => ?_⟩
  have g : ∀ k, k < 11 → ∀ v, (enV (gE l j))[k]? = some v → w.cell? ⟨b, o + j * 11 + k, none⟩ = some v := by
    intro k hk v hv
    rw [Nat.add_assoc]
    exact hc _ _ ((ens_get l j k hj hk).trans hv)
  exact ⟨g 0 (by decide) _ rfl, g 1 (by decide) _ rfl, g 2 (by decide) _ rfl, g 3 (by decide) _ rfl, g 4 (by decide) _ rfl, g 5 (by decide) _ rfl, g 6 (by decide) _ rfl, g 7 (by decide) _ rfl, g 8 (by decide) _ rfl, g 9 (by decide) _ rfl, g 10 (by decide) _ rfl⟩
/-- an account's row -/
structure Ro where
  ns : List Int
  sec : Int
  cnt : Int
def ro0 : Ro := ⟨[], 0, 0⟩
def gR (l : List Ro) (i : Nat) : Ro := l.getD i ro0
/-- a row as it lies: where its numbers are -/
structure Rc where
  A : Option Addr
  c : Nat
  r : Ro
def rc0 : Rc := ⟨none, 0, ro0⟩
def gC (l : List Rc) (i : Nat) : Rc := l.getD i rc0
def rcV (x : Rc) : List Value := [.slice x.A x.r.ns.length x.c, .int .i64 x.r.sec, .int .i64 x.r.cnt]
def rcs (l : List Rc) : List Value := l.flatMap rcV
theorem rcs_len (l : List Rc) : (rcs l).length = l.length * 3 := by
  induction l with
  | nil => rfl
  | cons p l ih => simp [rcs, rcV] at ih ⊢; omega
theorem rcs_one (l : List Rc) : ∀ u ∈ rcs l, u.oneCell' = true := by
  intro u hu
  simp only [rcs, List.mem_flatMap] at hu
  obtain ⟨e, _, he⟩ := hu
  simp only [rcV, List.mem_cons, List.not_mem_nil, or_false] at he
  rcases he with rfl | rfl | rfl <;> rfl
theorem rcs_get (l : List Rc) (i j : Nat) (hi : i < l.length) (hj : j < 3) : (rcs l)[i * 3 + j]? = (rcV (gC l i))[j]? := by
  induction l generalizing i with
  | nil => simp at hi
  | cons m l ih =>
    cases i with
    | zero =>
      show (rcV m ++ rcs l)[0 * 3 + j]? = (rcV m)[j]?
      rw [List.getElem?_append_left (by simp [rcV]; omega)]
      simp
    | succ i =>
      have h := ih i (by simpa using hi)
      show (rcV m ++ rcs l)[(i + 1) * 3 + j]? = (rcV (gC l i))[j]?
      rw [List.getElem?_append_right (by simp [rcV]; omega), ← h]
      congr 1
      simp [rcV]
      omega
theorem rcs_set (l : List Rc) (i : Nat) (x : Rc) (hi : i < l.length) : rcs (l.set i x) = (((rcs l).set (i * 3) (.slice x.A x.r.ns.length x.c)).set (i * 3 + 1) (.int .i64 x.r.sec)).set (i * 3 + 2) (.int .i64 x.r.cnt) := by
  induction l generalizing i with
  | nil => simp at hi
  | cons m l ih =>
    cases i with
    | zero => simp [rcs, rcV]
    | succ i =>
      have h := ih i (by simpa using hi)
      have e : ∀ l', rcs (m :: l') = rcV m ++ rcs l' := fun _ => rfl
      have e1 : (i + 1) * 3 = i * 3 + 1 + 1 + 1 := by omega
      simp only [List.set_cons_succ]
      rw [e, e, h, e1]
      simp [rcV]
theorem rcs_setA (l : List Rc) (i : Nat) (hi : i < l.length) (A : Option Addr) (c : Nat) (ns : List Int) : rcs (l.set i ⟨A, c, ⟨ns, (gC l i).r.sec, (gC l i).r.cnt⟩⟩) = (rcs l).set (i * 3) (.slice A ns.length c) := by
  induction l generalizing i with
  | nil => simp at hi
  | cons m l ih =>
    cases i with
    | zero => simp [rcs, rcV, gC]
    | succ i =>
      have h := ih i (by simpa using hi)
      have e : ∀ l', rcs (m :: l') = rcV m ++ rcs l' := fun _ => rfl
      have e1 : (i + 1) * 3 = i * 3 + 1 + 1 + 1 := by omega
      have e2 : gC (m :: l) (i + 1) = gC l i := by simp [gC]
      simp only [List.set_cons_succ]
      rw [e, e, e1, e2, h]
      simp [rcV]
theorem Rcs.at {w : World} {B : Nat} {A : Option Addr} {l : List Rc} (h : Rd w B A (rcs l)) (hi : 0 < l.length) :
    ∃ b o, A = some ⟨b, o, none⟩ ∧ b < B ∧ ∀ j, j < l.length → w.cell? ⟨b, o + j * 3, none⟩ = some (.slice (gC l j).A (gC l j).r.ns.length (gC l j).c) ∧ w.cell? ⟨b, o + j * 3 + 1, none⟩ = some (.int .i64 (gC l j).r.sec) ∧ w.cell? ⟨b, o + j * 3 + 2, none⟩ = some (.int .i64 (gC l j).r.cnt) := by
  obtain ⟨b, o, hA, hb, hc⟩ := Rd.at h (by intro e; have := rcs_len l; rw [e] at this; simp at this; omega)
  refine ⟨b, o, hA, hb, fun j hj => ?_⟩
  have g : ∀ k, k < 3 → ∀ v, (rcV (gC l j))[k]? = some v → w.cell? ⟨b, o + j * 3 + k, none⟩ = some v := by
    intro k hk v hv
    rw [Nat.add_assoc]
    exact hc _ _ ((rcs_get l j k hj hk).trans hv)
  exact ⟨g 0 (by decide) _ rfl, g 1 (by decide) _ rfl, g 2 (by decide) _ rfl⟩
/-- a shard's book -/
structure Bk where
  sh : Int
  ca : Int
  rows : List Ro
  op : List En
/-- a book as it lies -/
structure Bm (w : World) (A C : Option Addr) (rl : List Rc) (b : Bk) : Prop where
  r : Rd w w.heap.size A (rcs rl)
  e : rl.map Rc.r = b.rows
  n : ∀ i, i < rl.length → Ris w w.heap.size (gC rl i).A (gC rl i).r.ns
  o : Rd w w.heap.size C (ens b.op)
theorem Bm.below {w w' : World} {A C : Option Addr} {rl : List Rc} {b : Bk} (h : Bm w A C rl b) (hb : Below w.heap.size w w') : Bm w' A C rl b :=
  ⟨Rd.below' h.r hb hb.size, h.e, fun i hi => Rd.below' (h.n i hi) hb hb.size, Rd.below' h.o hb hb.size⟩
theorem Bm.len {w : World} {A C : Option Addr} {rl : List Rc} {b : Bk} (h : Bm w A C rl b) : rl.length = b.rows.length := by rw [← h.e]; simp
theorem gC_row {rl : List Rc} {rows : List Ro} (e : rl.map Rc.r = rows) {i : Nat} (hi : i < rl.length) : (gC rl i).r = gR rows i := by
  subst e
  simp [gC, gR, hi]
def bkA (A C : Option Addr) (c d : Nat) (b : Bk) : Value := .agg #[.int .i64 b.sh, .int .i64 b.ca, .slice A b.rows.length c, .slice C b.op.length d]
/-- a book in new memory -/
def MadeBk (b : Bk) (w : World) (e : Ending) (w' : World) : Prop :=
  ∃ A C c d rl, e = .returned (bkA A C c d b) ∧ Bm w' A C rl b ∧ Below w.heap.size w w'
end Go.Proofs.Ytjabfbeioapiaaa.Bkp
