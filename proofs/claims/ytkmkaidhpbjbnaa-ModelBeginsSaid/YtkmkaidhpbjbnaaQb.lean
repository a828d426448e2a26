/- Texts side by side: each has its own first line. -/
import Derived.Deep.DeepCutAuto
import Derived.Deep.RegionHeld3
import Derived.Maps.AppendAt
import Derived.Deep.Draws
import Derived.BigQuiet
import Derived.Test.YtkmkaidhpbjbnaaQa
/- The contract of fixed.Add, and words on rows of the call's own that are written. Condition: the numbers are of 64 bits. -/
namespace Go.Proofs.Ytkmkaidhpbjbnaa.Own
set_option maxRecDepth 100000
open Go.ChangeShapes Go.WideShapes Go.ChangeAt Go.RowKit Mem Tre Ref3 Law3 Fix3 Crd CrdB CrdC Cpl
set_option linter.unusedVariables false

/-- fits 64 bits -/
def inB (x : Int) : Bool := decide (-9223372036854775808 ≤ x ∧ x ≤ 9223372036854775807)
def numV (x : Int) : Int := if inB x then x else 0

theorem inB_t {x : Int} (h : -9223372036854775808 ≤ x) (h' : x ≤ 9223372036854775807) : inB x = true := by
  unfold inB; simp [h, h']
theorem inB_f {x : Int} (h : x < -9223372036854775808 ∨ 9223372036854775807 < x) : inB x = false := by
  unfold inB; simp; omega
theorem inB_of {x : Int} (h : inB x = true) : -9223372036854775808 ≤ x ∧ x ≤ 9223372036854775807 := by
  unfold inB at h; simpa using h
theorem numV_t {x : Int} (h : inB x = true) : numV x = x := by unfold numV; simp [h]
theorem numV_f {x : Int} (h : inB x = false) : numV x = 0 := by unfold numV; simp [h]
def Told (x : Int) (w : Go.World) (e : Ending) (w' : Go.World) : Prop := e = .returned (.tuple #[.int .i64 (numV x), .bool (inB x)]) ∧ w = w'

theorem told_t {x : Int} {w : Go.World} {y : Int} (h : -9223372036854775808 ≤ x) (h' : x ≤ 9223372036854775807) (hy : y = x) : Told x w (.returned (.tuple #[.int .i64 y, .bool true])) w := by
  have := inB_t h h'
  subst hy
  exact ⟨by rw [numV_t this, this], rfl⟩
theorem told_f {x : Int} {w : Go.World} (h : x < -9223372036854775808 ∨ 9223372036854775807 < x) : Told x w (.returned (.tuple #[.int .i64 0, .bool false])) w := by
  have := inB_f h
  exact ⟨by rw [numV_f this, this], rfl⟩

theorem told_no {x : Int} {w : Go.World} (h : inB x = false) : Told x w (.returned (.tuple #[.int .i64 0, .bool false])) w :=
  ⟨by rw [numV_f h, h], rfl⟩

theorem add_any (a b : Int) (w : Go.World) (ha : -9223372036854775808 ≤ a) (ha' : a ≤ 9223372036854775807) (hb : -9223372036854775808 ≤ b) (hb' : b ≤ 9223372036854775807) :
    Calls Try.prog 78 #[.int .i64 a, .int .i64 b] w (Told (a + b) w) := by
  by_cases h1 : 0 < b
  · by_cases h2 : 9223372036854775807 - b < a
    · go_enter Try.func78, Try.ntmps78
      go_wp2
      go_ret2
      exact told_f (by omega)
    · go_enter Try.func78, Try.ntmps78
      go_wp2
      go_ret2
      exact told_t (by omega) (by omega) rfl
  · by_cases h3 : b < 0
    · by_cases h2 : a < -9223372036854775808 - b
      · go_enter Try.func78, Try.ntmps78
        go_wp2
        go_ret2
        exact told_f (by omega)
      · go_enter Try.func78, Try.ntmps78
        go_wp2
        go_ret2
        exact told_t (by omega) (by omega) rfl
    · obtain rfl : b = 0 := by omega
      go_enter Try.func78, Try.ntmps78
      go_wp2
      go_ret2
      exact told_t (by omega) (by omega) (by omega)


/-- a row of numbers of the call's own, opened -/
theorem own_at {w : World} {base : Nat} {e : TypeId} {A : Option Addr} {n c : Nat} {u : List Int} (h : w.ownsRow base e 1 (.slice A n c) n (ints u)) (h0 : 0 < u.length) :
    ∃ g, A = some ⟨g, 0, none⟩ ∧ base ≤ g ∧ g < w.heap.size ∧ n = u.length ∧ (∀ j, j < u.length → w.cell? ⟨g, j, none⟩ = some (.int .i64 (gI u j)) ∧ w.frozen? ⟨g, j, none⟩ = false) ∧
      ∀ (j : Nat) (x : Int), j < u.length → (w.setCell ⟨g, j, none⟩ (.int .i64 x)).ownsRow base e 1 (.slice A n c) n (ints (u.set j x)) := by
  have hn : n = u.length := by have := h.1; rw [ints_len] at this; omega
  subst hn
  have hA : ∃ g, A = some ⟨g, 0, none⟩ ∧ base ≤ g := by
    rcases h.2 with ⟨h1, h2⟩ | ⟨g, cap, cur, h1, h2, _⟩
    · omega
    · injection h1 with h1; exact ⟨g, h1, h2⟩
  obtain ⟨g, rfl, hg⟩ := hA
  have hlt := World.ownsRow.lt h g rfl
  refine ⟨g, rfl, hg, hlt.2, rfl, fun j hj => ⟨?_, World.ownsRow.frozenAt h j⟩, fun j x hj => ?_⟩
  · rw [World.ownsRow.cellAt h j (by omega)]
    simp [ints, gI, hj]
  · have := World.ownsRow.stored h j (.int .i64 x)
    have e : (ints u).set j (.int .i64 x) = ints (u.set j x) := by simp [ints, List.map_set]
    rw [e] at this
    exact this.1
/-- a row of pairs of the call's own, opened -/
theorem own_at2 {w : World} {base : Nat} {e : TypeId} {A : Option Addr} {n c : Nat} {l : List (Int × Int)} (h : w.ownsRow base e 2 (.slice A n c) n (nds l)) (h0 : 0 < l.length) :
    ∃ g, A = some ⟨g, 0, none⟩ ∧ base ≤ g ∧ g < w.heap.size ∧ n = l.length ∧ (∀ j, j < l.length → w.cell? ⟨g, j * 2, none⟩ = some (.int .i64 (nP l j)) ∧ w.cell? ⟨g, j * 2 + 1, none⟩ = some (.int .i64 (nC l j)) ∧ w.frozen? ⟨g, j * 2 + 1, none⟩ = false) ∧
      ∀ (j : Nat) (x : Int), j < l.length → (w.setCell ⟨g, j * 2 + 1, none⟩ (.int .i64 x)).ownsRow base e 2 (.slice A n c) n (nds (l.set j (nP l j, x))) := by
  have hn : n = l.length := by have := h.1; rw [nds_len] at this; omega
  subst hn
  have hA : ∃ g, A = some ⟨g, 0, none⟩ ∧ base ≤ g := by
    rcases h.2 with ⟨h1, h2⟩ | ⟨g, cap, cur, h1, h2, _⟩
    · omega
    · injection h1 with h1; exact ⟨g, h1, h2⟩
  obtain ⟨g, rfl, hg⟩ := hA
  have hlt := World.ownsRow.lt h g rfl
  refine ⟨g, rfl, hg, hlt.2, rfl, fun j hj => ⟨?_, ?_, World.ownsRow.frozenAt h _⟩, fun j x hj => ?_⟩
  · rw [World.ownsRow.cellAt h _ (by omega)]; exact (nds_get l j hj).1
  · rw [World.ownsRow.cellAt h _ (by omega)]; exact (nds_get l j hj).2
  · have := World.ownsRow.stored h (j * 2 + 1) (.int .i64 x)
    have e : (nds l).set (j * 2 + 1) (.int .i64 x) = nds (l.set j (nP l j, x)) := by
      clear this h hlt hg h0
      induction l generalizing j with
      | nil => simp at hj
      | cons p l ih =>
        cases j with
        | zero => simp [nds, ndV, nP]
        | succ j =>
          have h' := ih j (by simpa using hj)
          have e1 : (j + 1) * 2 + 1 = (j * 2 + 1) + 1 + 1 := by omega
          have e2 : nP (p :: l) (j + 1) = nP l j := by simp [nP]
          rw [e1, e2]
          simpa [nds, ndV] using h'
    rw [e] at this
    exact this.1
/-- a row of another kind stays while one is written -/
theorem own_other {w : World} {base base' : Nat} {e e' : TypeId} {size n size' n' c' g : Nat} {v : Value} {xs ys : List Value} (h : w.ownsRow base e size v n xs) (h' : w.ownsRow base' e' size' (.slice (some ⟨g, 0, none⟩) n' c') n' ys) (hne : e ≠ e') (j : Nat) (u : Value) :
    (w.setCell ⟨g, j, none⟩ u).ownsRow base e size v n xs := by
  refine ⟨h.1, ?_⟩
  rcases h.2 with h2 | ⟨k, cap, cur, hv, hg, hh, r⟩
  · exact .inl h2
  · refine .inr ⟨k, cap, cur, hv, hg, ?_, r⟩
    rw [Below.heap_setCell _ _ _ _ ?_]
    · exact hh
    · rintro rfl
      rcases h'.2 with ⟨h1, _⟩ | ⟨k', cap', cur', h1, _, hh', _⟩
      · cases h1
      · injection h1 with h1
        injection h1 with h1
        injection h1 with h1
        subst h1
        rw [hh] at hh'
        injection hh' with hh'
        injection hh' with _ q
        exact hne q
/-- the last store: the result's block takes the State -/
theorem fin_st {w W : World} {A A' : Option Addr} {c c' g base : Nat} {l : List (Int × Int)} {u : List Int} {te : TypeId} {x y : Value}
    (o1 : W.ownsRow base 99 2 (.slice A l.length c) l.length (nds l)) (o2 : W.ownsRow base 2 1 (.slice A' u.length c') u.length (ints u)) (k : Blk W g te #[x, y]) (hg : g < base) (hw : w.heap.size ≤ g) (hb : Below w.heap.size w W) (a b : Value) :
    Nds ((W.setCell ⟨g, 0, none⟩ a).setCell ⟨g, 1, none⟩ b) ((W.setCell ⟨g, 0, none⟩ a).setCell ⟨g, 1, none⟩ b).heap.size A l ∧ Ris ((W.setCell ⟨g, 0, none⟩ a).setCell ⟨g, 1, none⟩ b) ((W.setCell ⟨g, 0, none⟩ a).setCell ⟨g, 1, none⟩ b).heap.size A' u ∧
    Below w.heap.size w ((W.setCell ⟨g, 0, none⟩ a).setCell ⟨g, 1, none⟩ b) ∧ ((W.setCell ⟨g, 0, none⟩ a).setCell ⟨g, 1, none⟩ b).cell? ⟨g, 0, none⟩ = some a ∧ ((W.setCell ⟨g, 0, none⟩ a).setCell ⟨g, 1, none⟩ b).cell? ⟨g, 1, none⟩ = some b := by
  have kf := blk_set (blk_set k 0 a) 1 b
  exact ⟨Rd.of_own (ownsRow_setCell_below (ownsRow_setCell_below o1 hg _) hg _), Rd.of_own (ownsRow_setCell_below (ownsRow_setCell_below o2 hg _) hg _), (hb.setCell hw _).setCell hw _, by rw [kf.cell]; rfl, by rw [kf.cell]; rfl⟩
end Go.Proofs.Ytkmkaidhpbjbnaa.Own

/- The contract of credit.Reserve: the code, the place and the State are as the plain functions say. Condition: the State is one that may be, each node behind the one that it hangs on. -/
namespace Go.Proofs.Ytkmkaidhpbjbnaa.Res
set_option maxRecDepth 100000
open Go.ChangeShapes Go.WideShapes Go.ChangeAt Go.RowKit Mem Tre Ref3 Law3 Fix3 Crd CrdB CrdC Cpl Own
set_option linter.unusedVariables false

/-- a State that may be, in memory -/
structure GoodSt (l : List (Int × Int)) (u : List Int) : Prop where
  okt : Okt l
  one : 1 ≤ l.length
  few : l.length ≤ 32
  len : u.length = l.length
  uok : UOk u
theorem GoodSt.right {l : List (Int × Int)} {u : List Int} (h : GoodSt l u) : rightF l u = true := okt_right h.okt h.one h.few h.len h.uok
theorem GoodSt.wf {l : List (Int × Int)} {u : List Int} (h : GoodSt l u) : WfN l := okt_wf h.okt h.few
theorem GoodSt.wfi {l : List (Int × Int)} {u : List Int} (h : GoodSt l u) : WfI u := uok_wf h.uok
/-- what stands behind 'own' and its store -/
structure Owned (w W : World) (A1 A2 : Option Addr) (c1 c2 : Nat) (l : List (Int × Int)) (u : List Int) : Prop where
  o1 : W.ownsRow (w.heap.size + 2) 99 2 (.slice A1 l.length c1) l.length (nds l)
  o2 : W.ownsRow (w.heap.size + 2) 2 1 (.slice A2 u.length c2) u.length (ints u)
  k3 : Blk W w.heap.size 62 #[.slice A1 l.length c1, .slice A2 u.length c2]
  k6 : Blk W (w.heap.size + 1) 62 #[.slice none 0 0, .slice none 0 0]
  bl : Below w.heap.size w W
theorem Owned.below {w W W' : World} {A1 A2 : Option Addr} {c1 c2 : Nat} {l : List (Int × Int)} {u : List Int} (h : Owned w W A1 A2 c1 c2 l u) (hb : Below W.heap.size W W') : Owned w W' A1 A2 c1 c2 l u :=
  ⟨own_below h.o1 hb, own_below h.o2 hb, Blk.below' h.k3 hb, Blk.below' h.k6 hb, below_step h.bl hb⟩
theorem owned_mk {w w1 : World} {A A' A1 A2 : Option Addr} {c c' c1 c2 : Nat} {l : List (Int × Int)} {u : List Int} {x y : Value}
    (k3 : Blk w1 w.heap.size 62 #[x, y]) (k6 : Blk w1 (w.heap.size + 1) 62 #[.slice none 0 0, .slice none 0 0]) (bl : Below w.heap.size w w1)
    {base : Nat} (hbase : w.heap.size + 2 ≤ base) (o1 : OwnN base w1 A1 c1 l) (o2 : OwnI base w1 A2 c2 u) :
    Owned w ((w1.setCell ⟨w.heap.size, 0, none⟩ (.slice A1 l.length c1)).setCell ⟨w.heap.size, 1, none⟩ (.slice A2 u.length c2)) A1 A2 c1 c2 l u :=
  ⟨ownsRow_setCell_below (ownsRow_setCell_below (own_mono o1 hbase) (by simp) _) (by simp) _, ownsRow_setCell_below (ownsRow_setCell_below (own_mono o2 hbase) (by simp) _) (by simp) _,
    blk_set (blk_set k3 0 _) 1 _, blk_far (blk_far k6 (by simp) _) (by simp) _, (bl.setCell (by simp) _).setCell (by simp) _⟩

/-- behind 'own', ahead of its store -/
structure Pre (w W : World) (x y : Value) (A1 A2 : Option Addr) (c1 c2 : Nat) (l : List (Int × Int)) (u : List Int) : Prop where
  o1 : W.ownsRow (w.heap.size + 2) 99 2 (.slice A1 l.length c1) l.length (nds l)
  o2 : W.ownsRow (w.heap.size + 2) 2 1 (.slice A2 u.length c2) u.length (ints u)
  k3 : Blk W w.heap.size 62 #[x, y]
  k6 : Blk W (w.heap.size + 1) 62 #[.slice none 0 0, .slice none 0 0]
  bl : Below w.heap.size w W
theorem Pre.store {w W : World} {x y : Value} {A1 A2 : Option Addr} {c1 c2 : Nat} {l : List (Int × Int)} {u : List Int} (h : Pre w W x y A1 A2 c1 c2 l u) :
    Owned w ((W.setCell ⟨w.heap.size, 0, none⟩ (.slice A1 l.length c1)).setCell ⟨w.heap.size, 1, none⟩ (.slice A2 u.length c2)) A1 A2 c1 c2 l u :=
  owned_mk (A := none) (A' := none) (c := 0) (c' := 0) h.k3 h.k6 h.bl (Nat.le_refl _) h.o1 h.o2
def Start (w : World) (x y : Value) (l : List (Int × Int)) (u : List Int) (e : Ending) (W : World) : Prop :=
  ∃ A1 c1 A2 c2, e = .returned (.agg #[.slice A1 l.length c1, .slice A2 u.length c2]) ∧ Pre w W x y A1 A2 c1 c2 l u
theorem start_own (A A' : Option Addr) (c c' : Nat) (l : List (Int × Int)) (u : List Int) (w : World) (hl : Hid (Nds w w.heap.size A l)) (hu : Hid (Ris w w.heap.size A' u)) (h1 : (l.length : Int) ≤ 32) (h2 : (u.length : Int) ≤ 32) :
    Calls Try.prog 76 #[.agg #[.slice A l.length c, .slice A' u.length c']] ((w.alloc (.cells #[.slice A l.length c, .slice A' u.length c'] 62)).alloc (.cells #[.slice none 0 0, .slice none 0 0] 62)) (Start w (.slice A l.length c) (.slice A' u.length c') l u) := by
  have b0 : Below w.heap.size w ((w.alloc (.cells #[.slice A l.length c, .slice A' u.length c'] 62)).alloc (.cells #[.slice none 0 0, .slice none 0 0] 62)) := ((Below.refl _ _).alloc (Nat.le_refl _) _).alloc (by simp) _
  have k1 : Blk ((w.alloc (.cells #[.slice A l.length c, .slice A' u.length c'] 62)).alloc (.cells #[.slice none 0 0, .slice none 0 0] 62)) w.heap.size 62 #[.slice A l.length c, .slice A' u.length c'] := (Blk.fresh w _ _).alloc _
  have k2 : Blk ((w.alloc (.cells #[.slice A l.length c, .slice A' u.length c'] 62)).alloc (.cells #[.slice none 0 0, .slice none 0 0] 62)) (w.heap.size + 1) 62 #[.slice none 0 0, .slice none 0 0] := by
    have := Blk.fresh (w.alloc (.cells #[.slice A l.length c, .slice A' u.length c'] 62)) 62 #[.slice none 0 0, .slice none 0 0]
    simp only [World.size_alloc] at this
    exact this
  refine (own_any A A' c c' l u _ (Rd.below' hl.out b0 b0.size) (Rd.below' hu.out b0 b0.size) (by omega) (by omega)).mono ?_
  rintro e W ⟨A1, c1, A2, c2, rfl, o1, o2, hb⟩
  exact ⟨A1, c1, A2, c2, rfl, own_mono o1 (by simp), own_mono o2 (by simp), Blk.below' k1 hb, Blk.below' k2 hb, below_step b0 hb⟩

end Go.Proofs.Ytkmkaidhpbjbnaa.Res

/- The contract of credit.Release: whether it is done, and the State, are as the plain functions say. Condition: the State is one that may be, each node behind the one that it hangs on. -/
namespace Go.Proofs.Ytkmkaidhpbjbnaa.Rel
set_option maxRecDepth 100000
open Go.ChangeShapes Go.WideShapes Go.ChangeAt Go.RowKit Mem Tre Ref3 Law3 Fix3 Crd CrdB CrdC Cpl Own Res
set_option linter.unusedVariables false

theorem relF_0 {l : List (Int × Int)} {u : List Int} {n x : Int} (h : (pathF l 3 n).length = 0) : relF l u n x = false := by unfold relF; simp [h]
theorem relF_m {l : List (Int × Int)} {u : List Int} {n x : Int} (h : x < 0) : relF l u n x = false := by
  unfold relF
  have : decide (0 ≤ x) = false := by simp; omega
  simp [this]
theorem relF_no {l : List (Int × Int)} {u : List Int} {n x : Int} {i : Nat} (hi : i < (pathF l 3 n).length) (h : gI u (gI (pathF l 3 n) i).toNat < x) : relF l u n x = false := by
  have : ((pathF l 3 n).all fun m => decide (x ≤ gI u m.toNat)) = false := by
    rw [List.all_eq_false]
    refine ⟨(pathF l 3 n)[i], List.getElem_mem hi, ?_⟩
    simp [gI, hi] at h ⊢
    exact h
  unfold relF
  rw [this, Bool.and_false]
theorem relF_t {l : List (Int × Int)} {u : List Int} {n x : Int} (h0 : 0 < (pathF l 3 n).length) (hx : 0 ≤ x) (h : ∀ i, i < (pathF l 3 n).length → x ≤ gI u (gI (pathF l 3 n) i).toNat) : relF l u n x = true := by
  have : ((pathF l 3 n).all fun m => decide (x ≤ gI u m.toNat)) = true := by
    rw [List.all_eq_true]
    intro m hm
    obtain ⟨i, hi, rfl⟩ := List.getElem_of_mem hm
    have := h i hi
    simp [gI, hi] at this
    simpa [gI] using this
  unfold relF
  rw [this]
  simp [h0, hx]

end Go.Proofs.Ytkmkaidhpbjbnaa.Rel

/- The contract of the reference's Reserve. Condition: the State is one that may be, each node behind the one that it hangs on. -/
namespace Go.Proofs.Ytkmkaidhpbjbnaa.Rr4
set_option maxRecDepth 100000
open Go.ChangeShapes Go.WideShapes Go.ChangeAt Go.RowKit Mem Tre Ref3 Law3 Fix3 Crd CrdB CrdC Cpl Own Res Rel Lim
set_option linter.unusedVariables false

theorem grown_refl (w : World) (row : Option Nat) : w.grownBy w row := ⟨rfl, rfl, rfl, Nat.le_refl _, fun _ _ _ => rfl⟩
theorem run_appG {P : Program} {w : World} {Bx : Nat} {base : Nat} {e : TypeId} {size n m nm c : Nat} {v : Value} {xs news : List Value} {A : Option Addr}
    (hown : w.ownsRow base e size v n xs) (hr : Rd w Bx A news) (hnm : nm = n + m) (t ty : TypeId)
    (i : TypeInfo) (z : Value) (bytes : Nat) (ht : P.underlying t = some (.slice e)) (hi : P.info? e = some i) (hz : i.zero = some z)
    (hsize : i.size = size) (hby : i.bytes = bytes) (hzs : z.cells.size = size) (hsz : 0 < size)
    (hl : news.length = m * size) (h1 : ∀ u ∈ news, u.oneCell' = true)
    (h63 : n + m ≤ maxLen) (hbytes : (n + m) * bytes ≤ 140737488355328) (hbase : base ≤ w.heap.size) :
    ∃ A' c' w', (Builtin.append_ #[t, t] ty #[v, .slice A m c]).run P w = .ok (.slice A' nm c') w' ∧ w'.ownsRow base e size (.slice A' nm c') nm (xs ++ news) ∧ w.grownBy w' v.ownBlock := by
  subst hnm
  cases A with
  | none =>
    have hn : news = [] := by
      rcases hr with h | ⟨b, o, h, _⟩
      · exact h
      · cases h
    subst hn
    have hm : m = 0 := by
      rcases Nat.eq_zero_or_pos m with h | h
      · exact h
      · have := Nat.mul_pos h hsz; simp at hl; omega
    subst hm
    obtain ⟨A', c', rfl, _⟩ := own_form hown
    exact ⟨A', c', w, run_appNil w base t ty e i size ht hi _ n xs hown c, by simpa using hown, grown_refl _ _⟩
  | some ad =>
    have hnews : ∀ j u, news[j]? = some u → w.cell? (ad.add j) = some u := by
      intro j u hj
      rcases hr with h | ⟨b, o, h, _, hc⟩
      · subst h; simp at hj
      · injection h with h
        subst h
        rw [show (⟨b, o, none⟩ : Addr).add j = ⟨b, o + j, none⟩ by unfold Addr.add; split <;> simp_all]
        exact hc j u hj
    obtain ⟨v', w', hrun, hown', hg, _⟩ := run_append_own (P := P) w base t ty e i z size bytes ht hi hz hsize hby hzs hsz v n xs hown ad m c news hl hnews h1 h63 hbytes hbase
    obtain ⟨A', c', rfl, _⟩ := own_form hown'
    exact ⟨A', c', w', hrun, hown', hg⟩
theorem step_appG {P : Program} {w : World} {ops : Array Oper} {o : Oper} {a : Act} {K : Act → World → Prop} {Q : Exit → Act → World → Prop} {E : Prop} {Bx : Nat} {base : Nat} {e : TypeId} {size n m nm c : Nat} {v : Value} {xs news : List Value} {A : Option Addr}
    (hown : Hid (w.ownsRow base e size v n xs)) (hr : Hid (Rd w Bx A news)) (hnm : nm = n + m) (hgd : o.guard = none) (s x : Operand) (t : TypeId)
    (ho : o.op = .call { callee := .builtin .append, args := #[s, x], argTypes := #[t, t] })
    (i : TypeInfo) (z : Value) (bytes : Nat) (ht : P.underlying t = some (.slice e)) (hi : P.info? e = some i) (hz : i.zero = some z)
    (hsize : i.size = size) (hby : i.bytes = bytes) (hzs : z.cells.size = size) (hsz : 0 < size)
    (hs : a.eval s = v) (hx : a.eval x = .slice A m c) (hl : news.length = m * size) (h1 : ∀ u ∈ news, u.oneCell' = true)
    (h63 : n + m ≤ maxLen) (hbytes : (n + m) * bytes ≤ 140737488355328) (hbase : base ≤ w.heap.size)
    (h : ∀ A' c' w', Hid (w'.ownsRow base e size (.slice A' nm c') nm (xs ++ news)) → w.grownBy w' v.ownBlock → K (a.put o.dst (.slice A' nm c')) w') :
    if Region.wanted o (yielded ops a.tmps) = true then Oper.wp P o a w K Q else E := by
  have hw : Region.wanted o (yielded ops a.tmps) = true := by simp [Region.wanted, hgd]
  rw [if_pos hw]
  obtain ⟨A', c', w', hrun, h2, h3⟩ := run_appG (P := P) hown.out hr.out hnm t o.type i z bytes ht hi hz hsize hby hzs hsz hl h1 h63 hbytes hbase (c := c)
  unfold Oper.wp execOp
  simp only [ho, resolve, invoke, builtin, Sem.run_bind, Sem.run_pure, Result.andThen_ok, List.map_toArray, List.map_cons, List.map_nil, hs, hx, hrun]
  exact h A' c' w' h2 h3
theorem Blk_grown {w w' : World} {g : Nat} {te : TypeId} {cs : Array Value} {row : Option Nat} (h : Blk w g te cs) (hg : w.grownBy w' row) (hne : some g ≠ row) : Blk w' g te cs := (hg.block g h.lt hne).trans h
theorem blk_ne {W : World} {g b j n n' c c' : Nat} {te : TypeId} {a a' : Option Addr} {k : IntKind} {x : Int} (h : Blk W g te #[.slice a n c, .slice a' n' c']) (hc : W.cell? ⟨b, j, none⟩ = some (.int k x)) : b ≠ g := by
  rintro rfl
  rw [h.cell] at hc
  match j, hc with
  | 0, hc => simp at hc
  | 1, hc => simp at hc
  | j + 2, hc => simp at hc
end Go.Proofs.Ytkmkaidhpbjbnaa.Rr4

/- Rows of the call's own side by side: one is appended to, the other stays. Over any program, no condition. -/
namespace Go.Proofs.Ytkmkaidhpbjbnaa.Apt
set_option maxRecDepth 100000
open Go.ChangeShapes Go.WideShapes Go.ChangeAt Go.RowKit Mem Tre Ref3 Law3 Rr4
set_option linter.unusedVariables false
theorem wpList_appRG {P : Program} {w : World} {ops : Array Oper} {rest : List Oper} {o : Oper} {a : Act} {Q : Exit → Act → World → Prop} {Bx : Nat} {base : Nat} {e : TypeId} {size n m nm c : Nat} {v : Value} {xs news : List Value} {A : Option Addr}
    (hown : Hid (w.ownsRow base e size v n xs)) (hr : Hid (Rd w Bx A news)) (hnm : nm = n + m) (hgd : o.guard = none) (s x : Operand) (t : TypeId)
    (ho : o.op = .call { callee := .builtin .append, args := #[s, x], argTypes := #[t, t] })
    (i : TypeInfo) (z : Value) (bytes : Nat) (ht : P.underlying t = some (.slice e)) (hi : P.info? e = some i) (hz : i.zero = some z)
    (hsize : i.size = size) (hby : i.bytes = bytes) (hzs : z.cells.size = size) (hsz : 0 < size)
    (hs : a.eval s = v) (hx : a.eval x = .slice A m c) (hl : news.length = m * size) (h1 : ∀ u ∈ news, u.oneCell' = true)
    (h63 : n + m ≤ maxLen) (hbytes : (n + m) * bytes ≤ 140737488355328) (hbase : base ≤ w.heap.size)
    (h : ∀ A' c' w', Hid (w'.ownsRow base e size (.slice A' nm c') nm (xs ++ news)) → w.grownBy w' v.ownBlock → wpList P ops Q rest (a.put o.dst (.slice A' nm c')) w') :
    wpList P ops Q (o :: rest) a w := by
  refine wpList_plain hgd fun _ hK => ?_
  obtain ⟨A', c', w', hrun, h2, h3⟩ := run_appG (P := P) hown.out hr.out hnm t o.type i z bytes ht hi hz hsize hby hzs hsz hl h1 h63 hbytes hbase (c := c)
  unfold Oper.wp execOp
  simp only [ho, resolve, invoke, builtin, Sem.run_bind, Sem.run_pure, Result.andThen_ok, List.map_toArray, List.map_cons, List.map_nil, hs, hx, hrun]
  exact hK _ _ (h A' c' w' h2 h3)
section
variable {w w' : World} {b1 b2 : Nat} {e1 e2 : TypeId} {s1 s2 n1 n2 : Nat} {v1 v2 : Value} {x1 x2 : List Value}
theorem own_ne (h : w.ownsRow b1 e1 s1 v1 n1 x1) (k : w.ownsRow b2 e2 s2 v2 n2 x2) (hne : e1 ≠ e2) : v1.ownBlock = none ∨ v1.ownBlock ≠ v2.ownBlock := by
  rcases h.2 with ⟨rfl, _⟩ | ⟨g, cap, cur, rfl, _, hg, _⟩
  · exact .inl rfl
  · rcases k.2 with ⟨rfl, _⟩ | ⟨g', cap', cur', rfl, _, hg', _⟩
    · exact .inr (by simp [Value.ownBlock])
    · refine .inr fun e => ?_
      simp only [Value.ownBlock, Option.some.injEq] at e
      subst e
      rw [hg] at hg'
      injection hg' with hg'
      injection hg' with _ q
      exact hne q
theorem own_grown (h : w.ownsRow b1 e1 s1 v1 n1 x1) (k : w.ownsRow b2 e2 s2 v2 n2 x2) (hne : e1 ≠ e2) (hg : w.grownBy w' v2.ownBlock) : w'.ownsRow b1 e1 s1 v1 n1 x1 :=
  World.ownsRow.kept h hg (own_ne h k hne)
theorem blk_own_ne {g : Nat} {te : TypeId} {cs : Array Value} (h : Blk w g te cs) (k : w.ownsRow b2 e2 s2 v2 n2 x2) (hne : te ≠ e2) : some g ≠ v2.ownBlock := by
  rcases k.2 with ⟨rfl, _⟩ | ⟨g', cap', cur', rfl, _, hg', _⟩
  · simp [Value.ownBlock]
  · intro e
    simp only [Value.ownBlock, Option.some.injEq] at e
    subst e
    unfold Blk at h
    rw [h] at hg'
    injection hg' with hg'
    injection hg' with _ q
    exact hne q
theorem blk_own_grown {g : Nat} {te : TypeId} {cs : Array Value} (h : Blk w g te cs) (k : w.ownsRow b2 e2 s2 v2 n2 x2) (hne : te ≠ e2) (hg : w.grownBy w' v2.ownBlock) : Blk w' g te cs :=
  Blk_grown h hg (blk_own_ne h k hne)
/-- what lies ahead of the row's base is as it was -/
theorem grown_below {B : Nat} {w0 : World} (hb : Below B w0 w) (k : w.ownsRow b2 e2 s2 v2 n2 x2) (hg : w.grownBy w' v2.ownBlock) (hB : B ≤ b2) (hB' : B ≤ w.heap.size) : Below B w0 w' :=
  hb.grown hg hB' (fun q hq => by have := World.ownsRow.lt k q hq; omega)
end
end Go.Proofs.Ytkmkaidhpbjbnaa.Apt

/- Contract of book's own: a copy of a book in memory of the call's own. Condition: the book lies in memory and is not long. -/
namespace Go.Proofs.Ytkmkaidhpbjbnaa.Bko
set_option maxRecDepth 100000
open Go.ChangeShapes Go.WideShapes Go.ChangeAt Go.RowKit Mem Tre Ref3 Law3 Crd CrdB CrdC Rr4 Bkp Bks Bcl Dlk Stk Apt
set_option linter.unusedVariables false
set_option linter.unusedSimpArgs false
/-- an account's numbers in a row of the call's own -/
def OwR (base : Nat) (w : World) (x : Rc) : Prop := w.ownsRow base 2 1 (.slice x.A x.r.ns.length x.c) x.r.ns.length (ints x.r.ns)
def Apa (l : List Rc) (i : Nat) : Prop := ∀ j k, j < k → k < i → ∀ a b, (gC l j).A = some a → (gC l k).A = some b → a.block ≠ b.block
/-- a book of the call's own -/
structure Bo (base : Nat) (w : World) (A C : Option Addr) (c d : Nat) (rl : List Rc) (b : Bk) : Prop where
  r : w.ownsRow base 138 3 (.slice A b.rows.length c) b.rows.length (rcs rl)
  o : w.ownsRow base 128 11 (.slice C b.op.length d) b.op.length (ens b.op)
  e : rl.map Rc.r = b.rows
  own : ∀ k, k < rl.length → OwR base w (gC rl k)
  ap : Apa rl rl.length
theorem Bo.below {base : Nat} {w w' : World} {A C : Option Addr} {c d : Nat} {rl : List Rc} {b : Bk} (h : Bo base w A C c d rl b) (hb : Below w.heap.size w w') : Bo base w' A C c d rl b :=
  ⟨own_below h.r hb, own_below h.o hb, h.e, fun k hk => own_below (h.own k hk) hb, h.ap⟩
theorem Bo.bm {base : Nat} {w : World} {A C : Option Addr} {c d : Nat} {rl : List Rc} {b : Bk} (h : Bo base w A C c d rl b) : Bm w A C rl b :=
  ⟨Rd.of_own h.r, h.e, fun i hi => Rd.of_own (h.own i hi), Rd.of_own h.o⟩
/-- the copy, so far as accounts ahead of i -/
structure Oi (w0 : World) (base : Nat) (w : World) (gB gR : Nat) (sh ca : Int) (Ar Ao : Option Addr) (nr cr no co : Nat) (rl rl' : List Rc) (rows : List Ro) (op : List En) (i : Nat) : Prop where
  kB : Blk w gB 58 #[.int .i64 sh, .int .i64 ca, .slice Ar nr cr, .slice Ao no co]
  kR : Blk w gR 58 #[.int .i64 0, .int .i64 0, .slice none 0 0, .slice none 0 0]
  r : w.ownsRow base 138 3 (.slice Ar nr cr) nr (rcs rl')
  o : w.ownsRow base 128 11 (.slice Ao no co) no (ens op)
  len : rl'.length = nr
  e : rl'.map Rc.r = rows
  old : ∀ k, i ≤ k → gC rl' k = gC rl k
  own : ∀ k, k < i → OwR base w (gC rl' k)
  ap : Apa rl' i
  b : Below w0.heap.size w0 w
theorem gC_set (l : List Rc) (i k : Nat) (x : Rc) (hi : i < l.length) : gC (l.set i x) k = if k = i then x else gC l k := by
  unfold gC
  by_cases h : k = i
  · subst h; simp [hi]
  · rw [if_neg h]
    simp [List.getD, List.getElem?_set, show ¬ i = k from fun e => h e.symm]
theorem map_set_same (l : List Rc) (i : Nat) (x : Rc) (h : x.r = (gC l i).r) (hi : i < l.length) : (l.set i x).map Rc.r = l.map Rc.r := by
  rw [List.map_set, h]
  have e : (gC l i).r = (l.map Rc.r)[i]'(by simpa using hi) := by simp [gC, hi]
  rw [e]
  exact List.set_getElem_self _
/-- one more account -/
theorem Oi.step {w0 : World} {base : Nat} {w w1 : World} {gB gR : Nat} {sh ca : Int} {Ar Ao : Option Addr} {nr cr no co : Nat} {rl rl' : List Rc} {rows : List Ro} {op : List En} {i gr : Nat}
    (h : Oi w0 base w gB gR sh ca Ar Ao nr cr no co rl rl' rows op i) (hi : i < nr) (hA : Ar = some ⟨gr, 0, none⟩) (hb1 : Below w.heap.size w w1) (hw0 : w0.heap.size ≤ base) (hbs : base ≤ w.heap.size)
    {A5 : Option Addr} {c5 : Nat} (how : w1.ownsRow w.heap.size 2 1 (.slice A5 (gC rl i).r.ns.length c5) (gC rl i).r.ns.length (ints (gC rl i).r.ns)) :
    Oi w0 base (w1.setCell ⟨gr, i * 3, none⟩ (.slice A5 (gC rl i).r.ns.length c5)) gB gR sh ca Ar Ao nr cr no co rl (rl'.set i ⟨A5, c5, ⟨(gC rl i).r.ns, (gC rl' i).r.sec, (gC rl' i).r.cnt⟩⟩) rows op (i + 1) := by
  have hr1 := own_below h.r hb1
  have ho1 := own_below h.o hb1
  subst hA
  obtain ⟨hs, hg⟩ := World.ownsRow.stored hr1 (i * 3) (.slice A5 (gC rl i).r.ns.length c5)
  have hil : i < rl'.length := by rw [h.len]; exact hi
  have hg' : w1.grownBy (w1.setCell ⟨gr, i * 3, none⟩ (.slice A5 (gC rl i).r.ns.length c5)) (Value.slice (some ⟨gr, 0, none⟩) nr cr).ownBlock := hg
  have hgr := World.ownsRow.lt hr1 gr rfl
  refine ⟨?_, ?_, ?_, ?_, ?_, ?_, ?_, ?_, ?_, ?_⟩
  · exact blk_own_grown (Blk.below' h.kB hb1) hr1 (by decide) hg'
  · exact blk_own_grown (Blk.below' h.kR hb1) hr1 (by decide) hg'
  · rw [rcs_setA _ _ hil]; exact hs
  · exact own_grown ho1 hr1 (by decide) hg'
  · rw [List.length_set]; exact h.len
  · rw [map_set_same _ _ _ _ hil]
    · exact h.e
    · rw [h.old i (Nat.le_refl _)]
  · intro k hk
    rw [gC_set _ _ _ _ hil, if_neg (by omega)]
    exact h.old k (by omega)
  · intro k hk
    rw [gC_set _ _ _ _ hil]
    by_cases hki : k = i
    · rw [if_pos hki]
      exact own_grown (own_mono (base' := base) how hbs) hr1 (by decide) hg'
    · rw [if_neg hki]
      exact own_grown (own_below (h.own k (by omega)) hb1) hr1 (by decide) hg'
  · intro j k hjk hk a b ha hb
    rw [gC_set _ _ _ _ hil, if_neg (by omega)] at ha
    rw [gC_set _ _ _ _ hil] at hb
    by_cases hki : k = i
    · rw [if_pos hki] at hb
      simp only [] at hb
      have h1 := World.ownsRow.lt (h.own j (by omega)) a.block (by rw [ha]; rfl)
      have h2 := World.ownsRow.lt how b.block (by rw [hb]; rfl)
      omega
    · rw [if_neg hki] at hb
      exact h.ap j k hjk (by omega) a b ha hb
  · have hgb : base ≤ gr := own_fresh hr1 _ rfl
    exact (below_step h.b hb1).setCell (p := ⟨gr, i * 3, none⟩) (by show _ ≤ gr; omega) _
/-- a book in memory of the call's own -/
def MadeBo (b : Bk) (w : World) (e : Ending) (w' : World) : Prop :=
  ∃ A C c d rl, e = .returned (bkA A C c d b) ∧ Bo w.heap.size w' A C c d rl b ∧ Below w.heap.size w w'
theorem own_st {w : World} {base : Nat} {e te : TypeId} {size n g : Nat} {v : Value} {xs : List Value} {cs : Array Value} (h : w.ownsRow base e size v n xs) (hk : Blk w g te cs) (hne : e ≠ te) (i : Nat) (x : Value) :
    (w.setCell ⟨g, i, none⟩ x).ownsRow base e size v n xs := by
  refine ⟨h.1, ?_⟩
  rcases h.2 with h2 | ⟨k, cap, cur, hv, hg, hh, r⟩
  · exact .inl h2
  · have hkg : k ≠ g := by
      rintro rfl
      unfold Blk at hk
      rw [hh] at hk
      injection hk with hk
      injection hk with _ q
      exact hne q
    refine .inr ⟨k, cap, cur, hv, hg, ?_, r⟩
    rw [Below.heap_setCell _ _ _ _ (by exact hkg)]
    exact hh
theorem own_st4 {w : World} {base : Nat} {e te : TypeId} {size n g : Nat} {v : Value} {xs : List Value} {u0 u1 u2 u3 v0 v1 v2 v3 : Value} (h : w.ownsRow base e size v n xs) (hk : Blk w g te #[u0, u1, u2, u3]) (hne : e ≠ te) :
    (st4 w g v0 v1 v2 v3).ownsRow base e size v n xs := by
  have k0 : Blk (w.setCell ⟨g, 0, none⟩ v0) g te #[v0, u1, u2, u3] := blk_st hk 0 v0
  have k1 : Blk ((w.setCell ⟨g, 0, none⟩ v0).setCell ⟨g, 1, none⟩ v1) g te #[v0, v1, u2, u3] := blk_st k0 1 v1
  have k2 : Blk (((w.setCell ⟨g, 0, none⟩ v0).setCell ⟨g, 1, none⟩ v1).setCell ⟨g, 2, none⟩ v2) g te #[v0, v1, v2, u3] := blk_st k1 2 v2
  exact own_st (own_st (own_st (own_st h hk hne 0 v0) k0 hne 1 v1) k1 hne 2 v2) k2 hne 3 v3
theorem own_at {w : World} {base : Nat} {e : TypeId} {size n c m : Nat} {A : Option Addr} {xs : List Value} (h : w.ownsRow base e size (.slice A n c) m xs) (hn : 0 < n) : ∃ g, A = some ⟨g, 0, none⟩ := by
  rcases h.2 with ⟨h', _⟩ | ⟨g, cap, cur, h', _⟩
  · simp at h'; omega
  · simp only [Value.slice.injEq] at h'
    exact ⟨g, h'.1⟩
set_option maxHeartbeats 8000000 in
theorem own_any (sh ca : Int) (A C : Option Addr) (nr no c d : Nat) (rl : List Rc) (bk : Bk) (w : World) (hsh : Hid (sh = bk.sh ∧ ca = bk.ca)) (hnr : Hid (nr = bk.rows.length)) (hno : Hid (no = bk.op.length)) (hm : Hid (Bm w A C rl bk)) (hf : Hid (FewB bk)) :
    Calls Try.prog 69 #[.agg #[.int .i64 sh, .int .i64 ca, .slice A nr c, .slice C no d]] w (MadeBo bk w) := by
  have hl1 : nr ≤ 1000 := by rw [hnr.out]; exact hf.out.rl
  have hl2 : no ≤ 1000 := by rw [hno.out]; exact hf.out.ol
  have b0 : Hid (Below w.heap.size w ((w.alloc (.cells #[.int .i64 sh, .int .i64 ca, .slice A nr c, .slice C no d] 58)).alloc (.cells #[.int .i64 0, .int .i64 0, .slice none 0 0, .slice none 0 0] 58))) := ((Below.refl _ _).alloc (Nat.le_refl _) _).alloc (by simp) _
  have K0 : Hid (Blk ((w.alloc (.cells #[.int .i64 sh, .int .i64 ca, .slice A nr c, .slice C no d] 58)).alloc (.cells #[.int .i64 0, .int .i64 0, .slice none 0 0, .slice none 0 0] 58)) w.heap.size 58 #[.int .i64 sh, .int .i64 ca, .slice A nr c, .slice C no d]) := (Blk.fresh w _ _).alloc _
  have R0 : Hid (Blk ((w.alloc (.cells #[.int .i64 sh, .int .i64 ca, .slice A nr c, .slice C no d] 58)).alloc (.cells #[.int .i64 0, .int .i64 0, .slice none 0 0, .slice none 0 0] 58)) (w.heap.size + 1) 58 #[.int .i64 0, .int .i64 0, .slice none 0 0, .slice none 0 0]) := blk_hd (by simp)
  have HRL : Hid (rl.length = nr) := by show _ = _; rw [hnr.out]; exact hm.out.len
  have HNL : Hid (∀ i, i < nr → (gC rl i).r.ns.length ≤ 1000) := fun i hi => by
    rw [gC_row hm.out.e (by rw [HRL.out]; exact hi)]
    exact hf.out.nl i (by rw [← hnr.out]; exact hi)
  go_enter Try.func69, Try.ntmps69
  go_upto_region 1 with fail
  generalize ((w.alloc (.cells #[.int .i64 sh, .int .i64 ca, .slice A nr c, .slice C no d] 58)).alloc (.cells #[.int .i64 0, .int .i64 0, .slice none 0 0, .slice none 0 0] 58)) = w0 at b0 K0 R0 ⊢
  obtain ⟨gB, hgB⟩ : ∃ g, g = w.heap.size := ⟨_, rfl⟩
  obtain ⟨gR, hgR⟩ : ∃ g, g = w.heap.size + 1 := ⟨_, rfl⟩
  have hBR : gB ≠ gR := by omega
  have hgB1 : Hid (w.heap.size ≤ gB) := by show _ ≤ _; omega
  have hgR1 : Hid (w.heap.size ≤ gR) := by show _ ≤ _; omega
  have K1 : Hid (Blk w0 gB 58 #[.int .i64 sh, .int .i64 ca, .slice A nr c, .slice C no d]) := by rw [hgB]; exact K0.out
  have R1 : Hid (Blk w0 gR 58 #[.int .i64 0, .int .i64 0, .slice none 0 0, .slice none 0 0]) := by rw [hgR]; exact R0.out
  simp only [← hgR]
  simp only [← hgB]
  clear hgB hgR K0 R0
  have HB0 := Lib.hid b0.out.size
  obtain ⟨k0, k1, k2, k3⟩ := q4_of K1.out
  go_wp2_with fail
  refine (cloneE C no d bk.op _ hno (Rd.below' hm.out.o b0.out b0.out.size) (by omega)).mono ?_
  rintro e w1 ⟨Ao, co, rfl, how1, hb1⟩
  have HO1 : Hid (w1.ownsRow w.heap.size 128 11 (.slice Ao no co) no (ens bk.op)) := own_mono how1 HB0.out
  have HB1 := Lib.hid (below_step b0.out hb1)
  have K2 := Lib.hid (Blk.below' K1.out hb1)
  have R2 := Lib.hid (Blk.below' R1.out hb1)
  clear k0 k1 k2 k3 how1 hb1 K1 R1 b0 HB0
  obtain ⟨k0, k1, k2, k3, f0, f1, f2, f3⟩ := z4_of K2.out
  have K3 : Hid (Blk (w1.setCell ⟨gB, 3, none⟩ (.slice Ao no co)) gB 58 #[.int .i64 sh, .int .i64 ca, .slice A nr c, .slice Ao no co]) := blk_st K2.out 3 _
  have R3 : Hid (Blk (w1.setCell ⟨gB, 3, none⟩ (.slice Ao no co)) gR 58 #[.int .i64 0, .int .i64 0, .slice none 0 0, .slice none 0 0]) := far_st R2.out (fun e => hBR e.symm) _
  have HO3 : Hid ((w1.setCell ⟨gB, 3, none⟩ (.slice Ao no co)).ownsRow w.heap.size 128 11 (.slice Ao no co) no (ens bk.op)) := own_st HO1.out K2.out (by decide) 3 _
  have HB3 : Hid (Below w.heap.size w (w1.setCell ⟨gB, 3, none⟩ (.slice Ao no co))) := HB1.out.setCell (p := ⟨gB, 3, none⟩) hgB1.out _
  go_upto_region 2 with fail
  clear k0 k1 k2 k3 f0 f1 f2 f3 HO1 HB1 K2 R2
  generalize w1.setCell ⟨gB, 3, none⟩ (.slice Ao no co) = w2 at K3 R3 HO3 HB3 ⊢
  obtain ⟨k0, k1, k2, k3, f0, f1, f2, f3⟩ := z4_of K3.out
  have HB0 := Lib.hid HB3.out.size
  go_wp2_with fail
  refine (cloneR A nr c rl _ (by show _ = _; rw [HRL.out]) (Rd.below' hm.out.r HB3.out HB3.out.size) (by omega)).mono ?_
  rintro e w3 ⟨Ar, cr, rfl, how1, hb1⟩
  have HR1 : Hid (w3.ownsRow w.heap.size 138 3 (.slice Ar nr cr) nr (rcs rl)) := own_mono how1 HB0.out
  have HO1 : Hid (w3.ownsRow w.heap.size 128 11 (.slice Ao no co) no (ens bk.op)) := own_below HO3.out hb1
  have HB1 := Lib.hid (below_step HB3.out hb1)
  have K2 := Lib.hid (Blk.below' K3.out hb1)
  have R2 := Lib.hid (Blk.below' R3.out hb1)
  clear k0 k1 k2 k3 f0 f1 f2 f3 how1 hb1 K3 R3 HB3 HO3 HB0
  obtain ⟨k0, k1, k2, k3, f0, f1, f2, f3⟩ := z4_of K2.out
  have OI : Hid (Oi w w.heap.size (w3.setCell ⟨gB, 2, none⟩ (.slice Ar nr cr)) gB gR sh ca Ar Ao nr cr no co rl rl bk.rows bk.op 0) :=
    ⟨blk_st K2.out 2 _, far_st R2.out (fun e => hBR e.symm) _, own_st HR1.out K2.out (by decide) 2 _, own_st HO1.out K2.out (by decide) 2 _, HRL.out, hm.out.e, fun _ _ => rfl, fun k hk => by omega, fun j k _ hk => by omega, HB1.out.setCell (p := ⟨gB, 2, none⟩) hgB1.out _⟩
  go_upto_region 3 with fail
  clear k0 k1 k2 k3 f0 f1 f2 f3 HR1 HO1 HB1 K2 R2
  generalize w3.setCell ⟨gB, 2, none⟩ (.slice Ar nr cr) = w4 at OI ⊢
  obtain ⟨k0, k1, k2, k3⟩ := q4_of OI.out.kB
  go_wp2_with fail
  clear k0 k1 k2 k3
  go_loopg [16] nr (fun g s16 w' => ∃ (i : Nat) (rl' : List Rc), i + g = nr ∧ s16 = .int .i64 i ∧ Hid (Oi w w.heap.size w' gB gR sh ca Ar Ao nr cr no co rl rl' bk.rows bk.op i))
  case atStart => exact ⟨0, rl, by omega, rfl, OI⟩
  case round =>
    clear OI
    obtain ⟨i, rl', hi, rfl, OI⟩ := hrel
    by_cases hlt : i < nr
    · obtain ⟨g, rfl⟩ : ∃ g, gk = g + 1 := ⟨gk - 1, by omega⟩
      have t0 : decide ((i : Int) < (nr : Int)) = true := by simp; omega
      obtain ⟨gr, hgr⟩ := own_at OI.out.r (by omega)
      subst hgr
      have hil : i < rl'.length := by rw [OI.out.len]; exact hlt
      obtain ⟨hbr, hbl, hnc, hcm, hroom, hcell⟩ := own_room OI.out.r
      have c0 := hcell (i * 3) _ (by have := rcs_get rl' i 0 hil (by decide); exact this)
      have c1 := hcell (i * 3 + 1) _ (by have := rcs_get rl' i 1 hil (by decide); exact this)
      have c2 := hcell (i * 3 + 2) _ (by have := rcs_get rl' i 2 hil (by decide); exact this)
      rw [OI.out.old i (Nat.le_refl _)] at c0 c1 c2
      have HL := Lib.hid (HNL.out i hlt)
      have HN : Hid (∀ w', Below w.heap.size w w' → Ris w' w'.heap.size (gC rl i).A (gC rl i).r.ns) := fun w' hb => Rd.below' (hm.out.n i (by rw [HRL.out]; exact hlt)) hb hb.size
      obtain ⟨R, hR⟩ : ∃ R, R = gC rl i := ⟨_, rfl⟩
      rw [← hR] at c0 c1 c2 HL HN
      have HR := Lib.hid hR
      clear hR hroom hcell
      obtain ⟨An, cn, ns, sec, cnt⟩ := R
      simp only [] at HL HN
      obtain ⟨nn, hnn⟩ : ∃ nn, nn = ns.length := ⟨_, rfl⟩
      have HNN := Lib.hid hnn
      have c0' : wr.cell? ⟨gr, i * 3, none⟩ = some (.slice An nn cn) := by rw [hnn]; exact c0
      have c1' : wr.cell? ⟨gr, i * 3 + 1, none⟩ = some (.int .i64 sec) := c1
      have c2' : wr.cell? ⟨gr, i * 3 + 2, none⟩ = some (.int .i64 cnt) := c2
      clear c0 c1 c2 hnn
      have bA : Hid (Below wr.heap.size wr (wr.alloc (.cells #[.slice An nn cn, .int .i64 sec, .int .i64 cnt] 138))) := (Below.refl _ _).alloc (Nat.le_refl _) _
      have KA : Hid (Blk (wr.alloc (.cells #[.slice An nn cn, .int .i64 sec, .int .i64 cnt] 138)) wr.heap.size 138 #[.slice An nn cn, .int .i64 sec, .int .i64 cnt]) := Blk.fresh _ _ _
      have KB : Hid (Blk (wr.alloc (.cells #[.slice An nn cn, .int .i64 sec, .int .i64 cnt] 138)) gB 58 #[.int .i64 sh, .int .i64 ca, .slice (some ⟨gr, 0, none⟩) nr cr, .slice Ao no co]) := Blk.below' OI.out.kB bA.out
      go_upto_region 6 with fail
      clear c0' c1' c2'
      generalize wr.alloc (.cells #[.slice An nn cn, .int .i64 sec, .int .i64 cnt] 138) = w5 at bA KA KB ⊢
      have hgrB : gr ≠ gB := fun e => blk_own_ne OI.out.kB OI.out.r (by decide) (by rw [e]; rfl)
      have hgr4 : gr ≠ wr.heap.size := by omega
      have HG := Lib.hid OI.out.b.size
      generalize hg4 : wr.heap.size = g4 at KA hgr4 ⊢
      have Hg4 := Lib.hid hg4
      clear hg4
      have bD : Below w.heap.size w w5.drew := (below_step OI.out.b bA.out).drew
      have bE : Hid (Below wr.heap.size wr w5.drew) := bA.out.drew
      obtain ⟨k0, k1, k2, k3⟩ := q4_of KB.out
      obtain ⟨m0, m1, m2⟩ := q3_of KA.out
      go_region_held3 (fun w' => w'.cell? ⟨gB, 2, none⟩ = some (.slice (some ⟨gr, 0, none⟩) nr cr) ∧ w'.cell? ⟨g4, 0, none⟩ = some (.slice An nn cn))
        (first | go_keep | (exact ⟨q1, p1⟩) | (exact ⟨q2 _, p2 _⟩))
        (first
          | (go_at_call 36; refine (cloneI An nn cn ns _ HNN (HN.out _ (by assumption)) (by have := HL.out; have := HNN.out; omega)).mono ?_; rintro e w6 ⟨A5, c5, rfl, how5, hb5⟩; have bF := Lib.hid (below_step bE.out hb5); have hr6 := own_room (own_below OI.out.r bF.out); have c6 := hr6.2.2.2.2.2 (i * 3) _ (by have := rcs_get rl' i 0 hil (by decide); exact this); have fz6 := (hr6.2.2.2.2.1 (i * 3) (by omega)).2; clear hr6; have q1 : w6.cell? ⟨gB, 2, none⟩ = some (.slice (some ⟨gr, 0, none⟩) nr cr) := cell_later hb5 (by assumption); have p1 : w6.cell? ⟨g4, 0, none⟩ = some (.slice An nn cn) := cell_later hb5 (by assumption); have q2 : ∀ x, (w6.setCell ⟨gr, i * 3, none⟩ x).cell? ⟨gB, 2, none⟩ = some (.slice (some ⟨gr, 0, none⟩) nr cr) := fun x => (World.cell?_setCell_other _ _ _ _ (by intro e; injection e with e; exact hgrB e)).trans q1; have p2 : ∀ x, (w6.setCell ⟨gr, i * 3, none⟩ x).cell? ⟨g4, 0, none⟩ = some (.slice An nn cn) := fun x => (World.cell?_setCell_other _ _ _ _ (by intro e; injection e with e; exact hgr4 e)).trans p1))
      have OI2 : Hid (Oi w w.heap.size (w6.setCell ⟨gr, i * 3, none⟩ (.slice A5 nn c5)) gB gR sh ca (some ⟨gr, 0, none⟩) Ao nr cr no co rl (rl'.set i ⟨A5, c5, ⟨(gC rl i).r.ns, (gC rl' i).r.sec, (gC rl' i).r.cnt⟩⟩) bk.rows bk.op (i + 1)) := by
        have hns : (gC rl i).r.ns = ns := by rw [← HR.out]
        have := Oi.step OI.out hlt rfl bF.out (Nat.le_refl _) OI.out.b.size (A5 := A5) (c5 := c5) (by rw [hns, ← HNN.out]; exact own_mono how5 bE.out.size)
        rw [hns, ← HNN.out] at this
        rw [hns]
        exact this
      go_wp2_with fail
      go_roundg g
      case measure => omega
      case rel => exact ⟨i + 1, _, by omega, by rw [Int.natCast_add]; rfl, OI2⟩
    · have t0 : decide ((i : Int) < (nr : Int)) = false := by simp; omega
      have hi2 : i = nr := by omega
      obtain ⟨k0, k1, k2, k3⟩ := q4_of OI.out.kB
      obtain ⟨z0, z1, z2, z3, f0, f1, f2, f3⟩ := z4_of OI.out.kR
      have F3 : Blk (st4 wr gR (.int .i64 sh) (.int .i64 ca) (.slice Ar nr cr) (.slice Ao no co)) gR 58 #[.int .i64 sh, .int .i64 ca, .slice Ar nr cr, .slice Ao no co] := st4_blk OI.out.kR
      have hfin : MadeBo bk w (.returned (.agg #[.int .i64 sh, .int .i64 ca, .slice Ar nr cr, .slice Ao no co])) (st4 wr gR (.int .i64 sh) (.int .i64 ca) (.slice Ar nr cr) (.slice Ao no co)) := by
        refine ⟨Ar, Ao, cr, co, rl', ?_, ⟨?_, ?_, OI.out.e, ?_, ?_⟩, st4_below OI.out.b hgR1.out⟩
        · unfold bkA; rw [← hnr.out, ← hno.out, ← hsh.out.1, ← hsh.out.2]
        · rw [← hnr.out]; exact own_st4 OI.out.r OI.out.kR (by decide)
        · rw [← hno.out]; exact own_st4 OI.out.o OI.out.kR (by decide)
        · intro k hk
          exact own_st4 (OI.out.own k (by rw [OI.out.len] at hk; omega)) OI.out.kR (by decide)
        · rw [OI.out.len, ← hi2]; exact OI.out.ap
      have HF := Lib.hid hfin
      clear hfin OI hi2
      go_wp2_with fail
      obtain ⟨d0, d1, d2, d3⟩ := q4_of F3
      clear F3
      unfold st4 at d0 d1 d2 d3 HF
      exact bodyPost_ret (v := .agg #[.int .i64 sh, .int .i64 ca, .slice Ar nr cr, .slice Ao no co]) (by simp [results, Try.results69, go_sem, d0, d1, d2, d3]) rfl HF.out
end Go.Proofs.Ytkmkaidhpbjbnaa.Bko

/- Contract of book's used: a row behind an order that came; the row's numbers are of the caller's own. Condition: the row is not long, the window is no less than 0. -/
namespace Go.Proofs.Ytkmkaidhpbjbnaa.Bku
set_option maxRecDepth 100000
open Go.ChangeShapes Go.WideShapes Go.ChangeAt Go.RowKit Mem Tre Ref3 Law3 Crd CrdB CrdC Rr4 Bkp Bks Bcl Dlk Stk Apt Bko
set_option linter.unusedVariables false
set_option linter.unusedSimpArgs false
theorem wpList_appA {P : Program} {w : World} {ops : Array Oper} {rest : List Oper} {o : Oper} {a : Act} {Q : Exit → Act → World → Prop} {Bx : Nat} {base : Nat} {e : TypeId} {size n m nm c : Nat} {v : Value} {xs news : List Value} {ad : Addr}
    (hown : Hid (w.ownsRow base e size v n xs)) (hr : Hid (Rd w Bx (some ad) news)) (hnm : nm = n + m) (hgd : o.guard = none) (s x : Operand) (t : TypeId)
    (ho : o.op = .call { callee := .builtin .append, args := #[s, x], argTypes := #[t, t] })
    (i : TypeInfo) (z : Value) (bytes : Nat) (ht : P.underlying t = some (.slice e)) (hi : P.info? e = some i) (hz : i.zero = some z)
    (hsize : i.size = size) (hby : i.bytes = bytes) (hzs : z.cells.size = size) (hsz : 0 < size)
    (hs : a.eval s = v) (hx : a.eval x = .slice (some ad) m c) (hl : news.length = m * size) (h1 : ∀ u ∈ news, u.oneCell' = true)
    (h63 : n + m ≤ maxLen) (hbytes : (n + m) * bytes ≤ 140737488355328) (hbase : base ≤ w.heap.size)
    (h : ∀ A' c' w', Hid (w'.ownsRow base e size (.slice A' nm c') nm (xs ++ news)) → Hid (w.grownBy w' v.ownBlock) → Hid ((Value.slice A' nm c').ownBlock = v.ownBlock ∨ (Value.slice A' nm c').ownBlock = some w.heap.size) → wpList P ops Q rest (a.put o.dst (.slice A' nm c')) w') :
    wpList P ops Q (o :: rest) a w := by
  refine wpList_plain hgd fun _ hK => ?_
  subst hnm
  have hnews : ∀ j u, news[j]? = some u → w.cell? (ad.add j) = some u := by
    intro j u hj
    rcases hr.out with h | ⟨b, o, h, _, hc⟩
    · subst h; simp at hj
    · injection h with h
      subst h
      rw [show (⟨b, o, none⟩ : Addr).add j = ⟨b, o + j, none⟩ by unfold Addr.add; split <;> simp_all]
      exact hc j u hj
  obtain ⟨v', w', hrun, hown', hg, _, hob⟩ := run_append_own_at (P := P) (w := w) base t o.type e i z size bytes ht hi hz hsize hby hzs hsz v n xs hown.out ad m c news hl hnews h1 h63 hbytes hbase
  obtain ⟨A', c', rfl, _⟩ := own_form hown'
  unfold Oper.wp execOp
  simp only [ho, resolve, invoke, builtin, Sem.run_bind, Sem.run_pure, Result.andThen_ok, List.map_toArray, List.map_cons, List.map_nil, hs, hx, hrun]
  exact hK _ _ (h A' c' w' hown' hg hob)
section
variable {w w1 w2 : World} {r : Option Nat}
theorem grown_of_below (h : Below w.heap.size w w1) : w.grownBy w1 r := ⟨h.os, h.tape, h.output, h.size, fun k hk _ => h.block k hk⟩
theorem grown_trans (h1 : w.grownBy w1 r) (h2 : w1.grownBy w2 r) : w.grownBy w2 r :=
  ⟨h2.os.trans h1.os, h2.tape.trans h1.tape, h2.output.trans h1.output, Nat.le_trans h1.size h2.size, fun k hk hr => (h2.block k (Nat.lt_of_lt_of_le hk h1.size) hr).trans (h1.block k hk hr)⟩
theorem grown_past {r' : Option Nat} (h1 : w.grownBy w1 r) (h2 : w1.grownBy w2 r') (hg : ∀ g, r' = some g → r = some g ∨ w.heap.size ≤ g) : w.grownBy w2 r :=
  ⟨h2.os.trans h1.os, h2.tape.trans h1.tape, h2.output.trans h1.output, Nat.le_trans h1.size h2.size, fun k hk hr => (h2.block k (Nat.lt_of_lt_of_le hk h1.size) (fun e => by
    rcases hg k e.symm with h | h
    · exact hr h.symm
    · omega)).trans (h1.block k hk hr)⟩
theorem grown_set (h1 : w.grownBy w1 r) {g : Nat} (hg : w.heap.size ≤ g) (i : Nat) (u : Value) : w.grownBy (w1.setCell ⟨g, i, none⟩ u) r :=
  ⟨h1.os, h1.tape, h1.output, by simpa [World.setCell] using h1.size, fun k hk hr => (heap_setCell_other w1 ⟨g, i, none⟩ k u (by show k ≠ g; omega)).trans (h1.block k hk hr)⟩
end
/-- a row behind an order, in memory of the caller's own or new -/
def MadeUs (base : Nat) (r : Ro) (A : Option Addr) (w : World) (e : Ending) (w' : World) : Prop :=
  ∃ A' c', e = .returned (.agg #[.slice A' r.ns.length c', .int .i64 r.sec, .int .i64 r.cnt]) ∧ Ris w' w'.heap.size A' r.ns ∧ (∀ a, A' = some a → base ≤ a.block) ∧ (∀ a, A' = some a → (Value.slice A 0 0).ownBlock = some a.block ∨ w.heap.size ≤ a.block) ∧ w.grownBy w' (Value.slice A 0 0).ownBlock
theorem some_ne {a b : Nat} (h : a ≠ b) : some b ≠ some a := fun e => h (Option.some.inj e).symm
theorem ownBlock_len (A : Option Addr) (n c : Nat) : (Value.slice A n c).ownBlock = (Value.slice A 0 0).ownBlock := by cases A <;> rfl
set_option maxHeartbeats 4000000 in
theorem used_any (base : Nat) (A : Option Addr) (n c : Nat) (ns : List Int) (sec cnt : Int) (oa os op oq on ot : Int) (ox : Bool) (wn : Nat) (w : World) (hn : Hid (n = ns.length)) (how : Hid (w.ownsRow base 2 1 (.slice A n c) n (ints ns))) (hbase : Hid (base ≤ w.heap.size)) (hl : n ≤ 1000) (hc : Hid (0 ≤ cnt ∧ cnt ≤ 1000000000)) (hwn : wn ≤ 1000) :
    Calls Try.prog 80 #[.agg #[.slice A n c, .int .i64 sec, .int .i64 cnt], .agg #[.int .i64 oa, .int .i64 os, .bool ox, .int .i64 op, .int .i64 oq, .int .i64 on, .int .i64 ot], .int .i64 (wn : Int)] w (MadeUs base (usedF ⟨ns, sec, cnt⟩ on ot wn) A w) := by
  obtain ⟨i0, hi, hz0, hz1, hz2⟩ := info_parts infoI
  have b0 : Hid (Below w.heap.size w (((w.alloc (.cells #[.slice A n c, .int .i64 sec, .int .i64 cnt] 138)).alloc (.cells #[.int .i64 oa, .int .i64 os, .bool ox, .int .i64 op, .int .i64 oq, .int .i64 on, .int .i64 ot] 48)).alloc (.cells #[.slice none 0 0, .int .i64 0, .int .i64 0] 138))) := (((Below.refl _ _).alloc (Nat.le_refl _) _).alloc (by simp) _).alloc (by simp <;> omega) _
  have K0 : Hid (Blk (((w.alloc (.cells #[.slice A n c, .int .i64 sec, .int .i64 cnt] 138)).alloc (.cells #[.int .i64 oa, .int .i64 os, .bool ox, .int .i64 op, .int .i64 oq, .int .i64 on, .int .i64 ot] 48)).alloc (.cells #[.slice none 0 0, .int .i64 0, .int .i64 0] 138)) w.heap.size 138 #[.slice A n c, .int .i64 sec, .int .i64 cnt]) := ((Blk.fresh w _ _).alloc _).alloc _
  have O0 : Hid (Blk (((w.alloc (.cells #[.slice A n c, .int .i64 sec, .int .i64 cnt] 138)).alloc (.cells #[.int .i64 oa, .int .i64 os, .bool ox, .int .i64 op, .int .i64 oq, .int .i64 on, .int .i64 ot] 48)).alloc (.cells #[.slice none 0 0, .int .i64 0, .int .i64 0] 138)) (w.heap.size + 1) 48 #[.int .i64 oa, .int .i64 os, .bool ox, .int .i64 op, .int .i64 oq, .int .i64 on, .int .i64 ot]) := Blk.alloc (blk_hd (by simp)) _
  have Z0 : Hid (Blk (((w.alloc (.cells #[.slice A n c, .int .i64 sec, .int .i64 cnt] 138)).alloc (.cells #[.int .i64 oa, .int .i64 os, .bool ox, .int .i64 op, .int .i64 oq, .int .i64 on, .int .i64 ot] 48)).alloc (.cells #[.slice none 0 0, .int .i64 0, .int .i64 0] 138)) (w.heap.size + 2) 138 #[.slice none 0 0, .int .i64 0, .int .i64 0]) := blk_hd (by simp)
  have tw : ¬ ((wn : Int) < 0) := by omega
  have tw2 : (if (0 : Int) > (wn : Int) then (0 : Int) else (wn : Int)) = wn := by simp; omega
  have tmx : ∀ (W : World) ts ty, (Builtin.max_ ts ty #[.int .i64 (wn : Int), .int .i64 0]).run Try.prog W = .ok (.int .i64 (wn : Int)) W := by
    intro W ts ty
    rw [run_max_int2, tw2]
  have tc : decide (cnt < 9223372036854775807) = true := by have := hc.out; simp; omega
  have e5 : wrap64 (cnt + 1) = cnt + 1 := by have := hc.out; unfold wrap64; omega
  go_enter Try.func80, Try.ntmps80
  go_upto_region 1 with fail
  generalize (((w.alloc (.cells #[.slice A n c, .int .i64 sec, .int .i64 cnt] 138)).alloc (.cells #[.int .i64 oa, .int .i64 os, .bool ox, .int .i64 op, .int .i64 oq, .int .i64 on, .int .i64 ot] 48)).alloc (.cells #[.slice none 0 0, .int .i64 0, .int .i64 0] 138)) = w0 at b0 K0 O0 Z0 ⊢
  obtain ⟨gr, hgr⟩ : ∃ g, g = w.heap.size := ⟨_, rfl⟩
  obtain ⟨go, hgo⟩ : ∃ g, g = w.heap.size + 1 := ⟨_, rfl⟩
  obtain ⟨gz, hgz⟩ : ∃ g, g = w.heap.size + 2 := ⟨_, rfl⟩
  have K1 : Hid (Blk w0 gr 138 #[.slice A n c, .int .i64 sec, .int .i64 cnt]) := by rw [hgr]; exact K0.out
  have O1 : Hid (Blk w0 go 48 #[.int .i64 oa, .int .i64 os, .bool ox, .int .i64 op, .int .i64 oq, .int .i64 on, .int .i64 ot]) := by rw [hgo]; exact O0.out
  have Z1 : Hid (Blk w0 gz 138 #[.slice none 0 0, .int .i64 0, .int .i64 0]) := by rw [hgz]; exact Z0.out
  simp only [← hgz]
  simp only [← hgo]
  simp only [← hgr]
  have hgrz : Hid (gz ≠ gr) := by show _ ≠ _; omega
  have hgor : Hid (go ≠ gr) := by show _ ≠ _; omega
  have hgrL : Hid (w.heap.size ≤ gr) := by show _ ≤ _; omega
  have hgzL : Hid (w.heap.size ≤ gz) := by show _ ≤ _; omega
  clear hgo hgr hgz K0 O0 Z0
  have W1b : Hid (Below w.heap.size w (w0.alloc (.cells #[.int .i64 on] 2))) := b0.out.alloc b0.out.size _
  have W1h : Hid ((w0.alloc (.cells #[.int .i64 on] 2)).ownsRow base 2 1 (.slice A n c) n (ints ns)) := own_below how W1b.out
  have W1r : Hid (Rd (w0.alloc (.cells #[.int .i64 on] 2)) (w0.alloc (.cells #[.int .i64 on] 2)).heap.size (some ⟨w0.heap.size, 0, none⟩) [.int .i64 on]) := rd_new rfl
  have W1k : Hid (Blk (w0.alloc (.cells #[.int .i64 on] 2)) gr 138 #[.slice A n c, .int .i64 sec, .int .i64 cnt]) := K1.out.alloc _
  have W1o : Hid (Blk (w0.alloc (.cells #[.int .i64 on] 2)) go 48 #[.int .i64 oa, .int .i64 os, .bool ox, .int .i64 op, .int .i64 oq, .int .i64 on, .int .i64 ot]) := O1.out.alloc _
  have W1z : Hid (Blk (w0.alloc (.cells #[.int .i64 on] 2)) gz 138 #[.slice none 0 0, .int .i64 0, .int .i64 0]) := Z1.out.alloc _
  have W1s : Hid (base ≤ (w0.alloc (.cells #[.int .i64 on] 2)).heap.size) := Nat.le_trans hbase.out W1b.out.size
  obtain ⟨n1, hn1⟩ : ∃ n1, n1 = n + 1 := ⟨_, rfl⟩
  have hn1l : n1 ≤ 1001 := by omega
  have hn1p : 0 < n1 := by omega
  have HN1 := Lib.hid hn1
  clear hn1
  obtain ⟨k0, k1, k2, f0, f1, f2⟩ := z3_of K1.out
  obtain ⟨o0, o1, o2, o3, o4, o5, o6⟩ := q7_of O1.out
  obtain ⟨a0, a1, a2, g0, g9, g2⟩ := z3_of W1k.out
  go_upto_region 2 with (at_builtin; go_loud (refine wpList_appA (nm := n1) W1h W1r HN1.out rfl _ _ _ rfl i0 (.int .i64 0) 8 Try.underlying60 hi hz0 hz1 hz2 rfl (by decide) rfl rfl (by simp) (by simp [Value.oneCell']) (by unfold maxLen; omega) (by omega) W1s.out ?_); intro A1 c1 w1 hown1 hgr1 hob1; have k9 := Blk_grown W1k.out hgr1.out (blk_own_ne W1k.out W1h.out (by decide)); obtain ⟨p0, p1, p2, q0, q1, q2⟩ := z3_of k9)
  obtain ⟨g1, hA1⟩ := own_at hown1.out (by omega)
  subst hA1
  have KR2 : Hid (Blk (w1.setCell ⟨gr, 0, none⟩ (.slice (some ⟨g1, 0, none⟩) n1 c1)) gr 138 #[.slice (some ⟨g1, 0, none⟩) n1 c1, .int .i64 sec, .int .i64 cnt]) := blk_st k9 0 _
  have KO2 : Hid (Blk (w1.setCell ⟨gr, 0, none⟩ (.slice (some ⟨g1, 0, none⟩) n1 c1)) go 48 #[.int .i64 oa, .int .i64 os, .bool ox, .int .i64 op, .int .i64 oq, .int .i64 on, .int .i64 ot]) := far_st (Blk_grown W1o.out hgr1.out (blk_own_ne W1o.out W1h.out (by decide))) hgor.out _
  have KZ2 : Hid (Blk (w1.setCell ⟨gr, 0, none⟩ (.slice (some ⟨g1, 0, none⟩) n1 c1)) gz 138 #[.slice none 0 0, .int .i64 0, .int .i64 0]) := far_st (Blk_grown W1z.out hgr1.out (blk_own_ne W1z.out W1h.out (by decide))) hgrz.out _
  have HW2 : Hid ((w1.setCell ⟨gr, 0, none⟩ (.slice (some ⟨g1, 0, none⟩) n1 c1)).ownsRow base 2 1 (.slice (some ⟨g1, 0, none⟩) n1 c1) n1 (ints ns ++ [.int .i64 on])) := own_st hown1.out k9 (by decide) 0 _
  have G2 : Hid (w.grownBy (w1.setCell ⟨gr, 0, none⟩ (.slice (some ⟨g1, 0, none⟩) n1 c1)) (Value.slice A 0 0).ownBlock) := grown_set (grown_trans (grown_of_below W1b.out) (by have := hgr1.out; rw [ownBlock_len] at this; exact this)) hgrL.out 0 _
  have HP : Hid ((Value.slice A 0 0).ownBlock = some g1 ∨ w.heap.size ≤ g1) := by
    rcases hob1.out with h | h
    · rw [ownBlock_len A] at h; exact .inl h.symm
    · simp only [Value.ownBlock, Option.some.injEq] at h
      exact .inr (by have := W1b.out.size; omega)
  have HPA : Hid (∀ a, some (⟨g1, 0, none⟩ : Addr) = some a → (Value.slice A 0 0).ownBlock = some a.block ∨ w.heap.size ≤ a.block) := by
    intro a ha
    have e := Option.some.inj ha
    rw [← e]; exact HP.out
  have hne1 : g1 ≠ gr := fun e => blk_own_ne k9 hown1.out (by decide) (by rw [← e]; rfl)
  have hne2 : g1 ≠ gz := fun e => blk_own_ne (Blk_grown W1z.out hgr1.out (blk_own_ne W1z.out W1h.out (by decide))) hown1.out (by decide) (by rw [← e]; rfl)
  have hne3 : g1 ≠ go := fun e => blk_own_ne (Blk_grown W1o.out hgr1.out (blk_own_ne W1o.out W1h.out (by decide))) hown1.out (by decide) (by rw [← e]; rfl)
  have NE : Hid (∀ a, some (⟨g1, 0, none⟩ : Addr) = some a → a.block ≠ gr ∧ a.block ≠ gz) := by
    intro a ha
    injection ha with ha
    subst ha
    exact ⟨hne1, hne2⟩
  have NE3 := Lib.hid hne3
  have NE1 := Lib.hid hne1
  have NE2 := Lib.hid hne2
  have FR : Hid (∀ a, some (⟨g1, 0, none⟩ : Addr) = some a → base ≤ a.block) := own_fresh hown1.out
  clear k0 k1 k2 f0 f1 f2 o0 o1 o2 o3 o4 o5 o6 a0 a1 a2 g0 g9 g2 p0 p1 p2 q0 q1 q2 k9 W1b W1h W1r W1k W1o W1z W1s hgr1 hob1 hown1 hne1 hne2 hne3 K1 O1 Z1 b0
  generalize w1.setCell ⟨gr, 0, none⟩ (.slice (some ⟨g1, 0, none⟩) n1 c1) = w2 at KR2 KO2 KZ2 HW2 G2 ⊢
  obtain ⟨k0, k1, k2, f0, f1, f2⟩ := z3_of KR2.out
  by_cases hw : wn < n1
  · obtain ⟨k, hk⟩ : ∃ k, k = n1 - wn := ⟨_, rfl⟩
    have e1 : wrap64 ((n1 : Int) - (wn : Int)) = (n1 : Int) - (wn : Int) := by unfold wrap64; omega
    have t2 : decide (wn < n1) = true := by simp; omega
    have hcap : (c1 : Int) ≤ 9223372036854775807 := by have := (own_room HW2.out).2.2.2.1; unfold maxLen at this; omega
    have D := deleteI g1 n1 c1 0 k (ints ns ++ [.int .i64 on]) base w2 HW2 (by rw [← ints_snoc]; exact ints_one _) (by omega) (by omega) hcap
    have hk2 : 0 + (n1 - k) = wn := by omega
    rw [hk2] at D
    simp only [Nat.zero_mul, List.take_zero, List.nil_append, Nat.mul_one] at D
    rw [← ints_snoc, show (ints (ns ++ [on])).drop k = ints ((ns ++ [on]).drop k) from by simp [ints]] at D
    have HNS : Hid (usedF ⟨ns, sec, cnt⟩ on ot wn = ⟨(ns ++ [on]).drop k, ot, (if sec = ot then cnt else 0) + 1⟩) := by
      show _ = _
      unfold usedF
      have : ns.length + 1 - (max (wn : Int) 0).toNat = k := by have := hn.out; have := HN1.out; omega
      simp only [this]
    have HN2 : Hid (wn = ((ns ++ [on]).drop k).length) := by show _ = _; rw [List.length_drop, List.length_append]; simp; have := hn.out; have := HN1.out; omega
    generalize (ns ++ [on]).drop k = ns2 at D HNS HN2
    rw [show ((0 : Nat) : Int) = 0 from rfl, show ((k : Nat) : Int) = (n1 : Int) - (wn : Int) from by omega] at D
    clear hk hk2 tw tw2
    go_upto_region 5 with (go_at_call 89; go_loud (refine D.mono ?_); rintro e w3 ⟨rfl, hrd, hg3⟩; have KR3 := Blk_grown KR2.out hg3 (some_ne NE1.out); obtain ⟨p0, p1, p2, q0, q1, q2⟩ := z3_of KR3)
    have HP' : ∀ g, some g1 = some g → (Value.slice A 0 0).ownBlock = some g ∨ w.heap.size ≤ g := fun g hg => by
      have e := Option.some.inj hg
      rw [← e]; exact HP.out
    have G3 : w.grownBy w3 (Value.slice A 0 0).ownBlock := grown_past G2.out hg3 HP'
    have KR4 : Hid (Blk (w3.setCell ⟨gr, 0, none⟩ (.slice (some ⟨g1, 0, none⟩) wn c1)) gr 138 #[.slice (some ⟨g1, 0, none⟩) wn c1, .int .i64 sec, .int .i64 cnt]) := blk_st KR3 0 _
    have KO4 : Hid (Blk (w3.setCell ⟨gr, 0, none⟩ (.slice (some ⟨g1, 0, none⟩) wn c1)) go 48 #[.int .i64 oa, .int .i64 os, .bool ox, .int .i64 op, .int .i64 oq, .int .i64 on, .int .i64 ot]) := far_st (Blk_grown KO2.out hg3 (some_ne NE3.out)) hgor.out _
    have KZ4 : Hid (Blk (w3.setCell ⟨gr, 0, none⟩ (.slice (some ⟨g1, 0, none⟩) wn c1)) gz 138 #[.slice none 0 0, .int .i64 0, .int .i64 0]) := far_st (Blk_grown KZ2.out hg3 (some_ne NE2.out)) hgrz.out _
    have RI4 : Hid (Ris (w3.setCell ⟨gr, 0, none⟩ (.slice (some ⟨g1, 0, none⟩) wn c1)) (w3.setCell ⟨gr, 0, none⟩ (.slice (some ⟨g1, 0, none⟩) wn c1)).heap.size (some ⟨g1, 0, none⟩) ns2) := Rd.keep' hrd (Nat.lt_succ_self _) (fun a ha => (NE.out a ha).1) _
    have G4 : Hid (w.grownBy (w3.setCell ⟨gr, 0, none⟩ (.slice (some ⟨g1, 0, none⟩) wn c1)) (Value.slice A 0 0).ownBlock) := grown_set G3 hgrL.out 0 _
    clear k0 k1 k2 f0 f1 f2 p0 p1 p2 q0 q1 q2 KR3 hrd hg3 D KR2 KO2 KZ2 HW2 G2 e1 t2
    generalize w3.setCell ⟨gr, 0, none⟩ (.slice (some ⟨g1, 0, none⟩) wn c1) = w4 at KR4 KO4 KZ4 RI4 G4 ⊢
    by_cases hs : sec = ot
    · have t1 : (sec != ot) = false := by simp [hs]
      have HFIN : Hid (usedF ⟨ns, sec, cnt⟩ on ot wn = ⟨ns2, sec, cnt + 1⟩) := by show _ = _; rw [HNS.out, if_pos hs, ← hs]
      clear hs
      have KR9 : Hid (Blk (w4.setCell ⟨gr, 2, none⟩ (.int .i64 (cnt + 1))) gr 138 #[.slice (some ⟨g1, 0, none⟩) wn c1, .int .i64 sec, .int .i64 (cnt + 1)]) := blk_st KR4.out 2 _
      have KZ9 : Hid (Blk (w4.setCell ⟨gr, 2, none⟩ (.int .i64 (cnt + 1))) gz 138 #[.slice none 0 0, .int .i64 0, .int .i64 0]) := far_st KZ4.out hgrz.out _
      have RI9 : Hid (Ris (w4.setCell ⟨gr, 2, none⟩ (.int .i64 (cnt + 1))) (w4.setCell ⟨gr, 2, none⟩ (.int .i64 (cnt + 1))).heap.size (some ⟨g1, 0, none⟩) ns2) := Rd.keep' RI4.out (Nat.lt_succ_self _) (fun a ha => (NE.out a ha).1) _
      have G9 : Hid (w.grownBy (w4.setCell ⟨gr, 2, none⟩ (.int .i64 (cnt + 1))) (Value.slice A 0 0).ownBlock) := grown_set G4.out hgrL.out 2 _
      obtain ⟨k0, k1, k2, f0, f1, f2⟩ := z3_of KR4.out
      obtain ⟨o0, o1, o2, o3, o4, o5, o6⟩ := q7_of KO4.out
      go_upto_region 9 with fail
      clear k0 k1 k2 f0 f1 f2 o0 o1 o2 o3 o4 o5 o6
      generalize (w4.setCell ⟨gr, 2, none⟩ (.int .i64 (cnt + 1))) = w9 at KR9 KZ9 RI9 G9 ⊢
      have F3 : Blk (st3 w9 gz (.slice (some ⟨g1, 0, none⟩) wn c1) (.int .i64 sec) (.int .i64 (cnt + 1))) gz 138 #[.slice (some ⟨g1, 0, none⟩) wn c1, (.int .i64 sec), (.int .i64 (cnt + 1))] := st3_blk KZ9.out
      have hfin : MadeUs base (usedF ⟨ns, sec, cnt⟩ on ot wn) A w (.returned (.agg #[.slice (some ⟨g1, 0, none⟩) wn c1, (.int .i64 sec), (.int .i64 (cnt + 1))])) (st3 w9 gz (.slice (some ⟨g1, 0, none⟩) wn c1) (.int .i64 sec) (.int .i64 (cnt + 1))) := by
        refine ⟨(some ⟨g1, 0, none⟩), c1, ?_, ?_, FR.out, HPA.out, ?_⟩
        · rw [HFIN.out, HN2.out]
        · rw [HFIN.out]
          unfold st3
          exact Rd.keep' (Rd.keep' (Rd.keep' RI9.out (Nat.lt_succ_self _) (fun a ha => (NE.out a ha).2) _) (Nat.lt_succ_self _) (fun a ha => (NE.out a ha).2) _) (Nat.lt_succ_self _) (fun a ha => (NE.out a ha).2) _
        · exact grown_set (grown_set (grown_set G9.out hgzL.out 0 _) hgzL.out 1 _) hgzL.out 2 _
      have HF := Lib.hid hfin
      clear hfin
      obtain ⟨k0, k1, k2⟩ := q3_of KR9.out
      obtain ⟨z0, z1, z2, f0, f1, f2⟩ := z3_of KZ9.out
      go_wp2_with fail
      obtain ⟨d0, d1, d2⟩ := q3_of F3
      clear F3
      unfold st3 at d0 d1 d2 HF
      exact bodyPost_ret (v := .agg #[.slice (some ⟨g1, 0, none⟩) wn c1, (.int .i64 sec), (.int .i64 (cnt + 1))]) (by simp [results, Try.results80, go_sem, d0, d1, d2]) rfl HF.out
    · have t1 : (sec != ot) = true := by simp [hs]
      have HFIN : Hid (usedF ⟨ns, sec, cnt⟩ on ot wn = ⟨ns2, ot, 1⟩) := by show _ = _; rw [HNS.out, if_neg hs]; rfl
      clear hs
      have KR8 : Hid (Blk (w4.setCell ⟨gr, 1, none⟩ (.int .i64 ot)) gr 138 #[.slice (some ⟨g1, 0, none⟩) wn c1, .int .i64 ot, .int .i64 cnt]) := blk_st KR4.out 1 _
      have KR7 : Hid (Blk ((w4.setCell ⟨gr, 1, none⟩ (.int .i64 ot)).setCell ⟨gr, 2, none⟩ (.int .i64 0)) gr 138 #[.slice (some ⟨g1, 0, none⟩) wn c1, .int .i64 ot, .int .i64 0]) := blk_st KR8.out 2 _
      have KZ7 : Hid (Blk ((w4.setCell ⟨gr, 1, none⟩ (.int .i64 ot)).setCell ⟨gr, 2, none⟩ (.int .i64 0)) gz 138 #[.slice none 0 0, .int .i64 0, .int .i64 0]) := far_st (far_st KZ4.out hgrz.out _) hgrz.out _
      have RI7 : Hid (Ris ((w4.setCell ⟨gr, 1, none⟩ (.int .i64 ot)).setCell ⟨gr, 2, none⟩ (.int .i64 0)) ((w4.setCell ⟨gr, 1, none⟩ (.int .i64 ot)).setCell ⟨gr, 2, none⟩ (.int .i64 0)).heap.size (some ⟨g1, 0, none⟩) ns2) := Rd.keep' (Rd.keep' RI4.out (Nat.lt_succ_self _) (fun a ha => (NE.out a ha).1) _) (Nat.lt_succ_self _) (fun a ha => (NE.out a ha).1) _
      have G7 : Hid (w.grownBy ((w4.setCell ⟨gr, 1, none⟩ (.int .i64 ot)).setCell ⟨gr, 2, none⟩ (.int .i64 0)) (Value.slice A 0 0).ownBlock) := grown_set (grown_set G4.out hgrL.out 1 _) hgrL.out 2 _
      obtain ⟨k0, k1, k2, f0, f1, f2⟩ := z3_of KR4.out
      obtain ⟨o0, o1, o2, o3, o4, o5, o6⟩ := q7_of KO4.out
      go_upto_region 7 with fail
      clear k0 k1 k2 f0 f1 f2 o0 o1 o2 o3 o4 o5 o6 KR8
      generalize ((w4.setCell ⟨gr, 1, none⟩ (.int .i64 ot)).setCell ⟨gr, 2, none⟩ (.int .i64 0)) = w7 at KR7 KZ7 RI7 G7 ⊢
      have KR9 : Hid (Blk (w7.setCell ⟨gr, 2, none⟩ (.int .i64 1)) gr 138 #[.slice (some ⟨g1, 0, none⟩) wn c1, .int .i64 ot, .int .i64 1]) := blk_st KR7.out 2 _
      have KZ9 : Hid (Blk (w7.setCell ⟨gr, 2, none⟩ (.int .i64 1)) gz 138 #[.slice none 0 0, .int .i64 0, .int .i64 0]) := far_st KZ7.out hgrz.out _
      have RI9 : Hid (Ris (w7.setCell ⟨gr, 2, none⟩ (.int .i64 1)) (w7.setCell ⟨gr, 2, none⟩ (.int .i64 1)).heap.size (some ⟨g1, 0, none⟩) ns2) := Rd.keep' RI7.out (Nat.lt_succ_self _) (fun a ha => (NE.out a ha).1) _
      have G9 : Hid (w.grownBy (w7.setCell ⟨gr, 2, none⟩ (.int .i64 1)) (Value.slice A 0 0).ownBlock) := grown_set G7.out hgrL.out 2 _
      obtain ⟨k0, k1, k2, f0, f1, f2⟩ := z3_of KR7.out
      go_upto_region 9 with fail
      clear k0 k1 k2 f0 f1 f2 KR7 KZ7 RI7 G7
      generalize w7.setCell ⟨gr, 2, none⟩ (.int .i64 1) = w9 at KR9 KZ9 RI9 G9 ⊢
      have F3 : Blk (st3 w9 gz (.slice (some ⟨g1, 0, none⟩) wn c1) (.int .i64 ot) (.int .i64 1)) gz 138 #[.slice (some ⟨g1, 0, none⟩) wn c1, (.int .i64 ot), (.int .i64 1)] := st3_blk KZ9.out
      have hfin : MadeUs base (usedF ⟨ns, sec, cnt⟩ on ot wn) A w (.returned (.agg #[.slice (some ⟨g1, 0, none⟩) wn c1, (.int .i64 ot), (.int .i64 1)])) (st3 w9 gz (.slice (some ⟨g1, 0, none⟩) wn c1) (.int .i64 ot) (.int .i64 1)) := by
        refine ⟨(some ⟨g1, 0, none⟩), c1, ?_, ?_, FR.out, HPA.out, ?_⟩
        · rw [HFIN.out, HN2.out]
        · rw [HFIN.out]
          unfold st3
          exact Rd.keep' (Rd.keep' (Rd.keep' RI9.out (Nat.lt_succ_self _) (fun a ha => (NE.out a ha).2) _) (Nat.lt_succ_self _) (fun a ha => (NE.out a ha).2) _) (Nat.lt_succ_self _) (fun a ha => (NE.out a ha).2) _
        · exact grown_set (grown_set (grown_set G9.out hgzL.out 0 _) hgzL.out 1 _) hgzL.out 2 _
      have HF := Lib.hid hfin
      clear hfin
      obtain ⟨k0, k1, k2⟩ := q3_of KR9.out
      obtain ⟨z0, z1, z2, f0, f1, f2⟩ := z3_of KZ9.out
      go_wp2_with fail
      obtain ⟨d0, d1, d2⟩ := q3_of F3
      clear F3
      unfold st3 at d0 d1 d2 HF
      exact bodyPost_ret (v := .agg #[.slice (some ⟨g1, 0, none⟩) wn c1, (.int .i64 ot), (.int .i64 1)]) (by simp [results, Try.results80, go_sem, d0, d1, d2]) rfl HF.out
  · have e1 : wrap64 ((n1 : Int) - (wn : Int)) = (n1 : Int) - (wn : Int) := by unfold wrap64; omega
    have t2 : decide (wn < n1) = false := by simp; omega
    have HNS : Hid (usedF ⟨ns, sec, cnt⟩ on ot wn = ⟨ns ++ [on], ot, (if sec = ot then cnt else 0) + 1⟩) := by
      show _ = _
      unfold usedF
      have : ns.length + 1 - (max (wn : Int) 0).toNat = 0 := by have := hn.out; have := HN1.out; omega
      simp only [this, List.drop_zero]
    have HN2 : Hid (n1 = (ns ++ [on]).length) := by show _ = _; rw [List.length_append]; simp; have := hn.out; have := HN1.out; omega
    have RI2 : Hid (Ris w2 w2.heap.size (some ⟨g1, 0, none⟩) (ns ++ [on])) := by
      show Rd _ _ _ _
      rw [ints_snoc]
      exact Rd.of_own HW2.out
    generalize ns ++ [on] = ns2 at HNS HN2 RI2
    go_upto_region 5 with fail
    clear k0 k1 k2 f0 f1 f2 HW2 e1 t2 hw
    by_cases hs : sec = ot
    · have t1 : (sec != ot) = false := by simp [hs]
      have HFIN : Hid (usedF ⟨ns, sec, cnt⟩ on ot wn = ⟨ns2, sec, cnt + 1⟩) := by show _ = _; rw [HNS.out, if_pos hs, ← hs]
      clear hs
      have KR9 : Hid (Blk (w2.setCell ⟨gr, 2, none⟩ (.int .i64 (cnt + 1))) gr 138 #[.slice (some ⟨g1, 0, none⟩) n1 c1, .int .i64 sec, .int .i64 (cnt + 1)]) := blk_st KR2.out 2 _
      have KZ9 : Hid (Blk (w2.setCell ⟨gr, 2, none⟩ (.int .i64 (cnt + 1))) gz 138 #[.slice none 0 0, .int .i64 0, .int .i64 0]) := far_st KZ2.out hgrz.out _
      have RI9 : Hid (Ris (w2.setCell ⟨gr, 2, none⟩ (.int .i64 (cnt + 1))) (w2.setCell ⟨gr, 2, none⟩ (.int .i64 (cnt + 1))).heap.size (some ⟨g1, 0, none⟩) ns2) := Rd.keep' RI2.out (Nat.lt_succ_self _) (fun a ha => (NE.out a ha).1) _
      have G9 : Hid (w.grownBy (w2.setCell ⟨gr, 2, none⟩ (.int .i64 (cnt + 1))) (Value.slice A 0 0).ownBlock) := grown_set G2.out hgrL.out 2 _
      obtain ⟨k0, k1, k2, f0, f1, f2⟩ := z3_of KR2.out
      obtain ⟨o0, o1, o2, o3, o4, o5, o6⟩ := q7_of KO2.out
      go_upto_region 9 with fail
      clear k0 k1 k2 f0 f1 f2 o0 o1 o2 o3 o4 o5 o6
      generalize (w2.setCell ⟨gr, 2, none⟩ (.int .i64 (cnt + 1))) = w9 at KR9 KZ9 RI9 G9 ⊢
      have F3 : Blk (st3 w9 gz (.slice (some ⟨g1, 0, none⟩) n1 c1) (.int .i64 sec) (.int .i64 (cnt + 1))) gz 138 #[.slice (some ⟨g1, 0, none⟩) n1 c1, (.int .i64 sec), (.int .i64 (cnt + 1))] := st3_blk KZ9.out
      have hfin : MadeUs base (usedF ⟨ns, sec, cnt⟩ on ot wn) A w (.returned (.agg #[.slice (some ⟨g1, 0, none⟩) n1 c1, (.int .i64 sec), (.int .i64 (cnt + 1))])) (st3 w9 gz (.slice (some ⟨g1, 0, none⟩) n1 c1) (.int .i64 sec) (.int .i64 (cnt + 1))) := by
        refine ⟨(some ⟨g1, 0, none⟩), c1, ?_, ?_, FR.out, HPA.out, ?_⟩
        · rw [HFIN.out, HN2.out]
        · rw [HFIN.out]
          unfold st3
          exact Rd.keep' (Rd.keep' (Rd.keep' RI9.out (Nat.lt_succ_self _) (fun a ha => (NE.out a ha).2) _) (Nat.lt_succ_self _) (fun a ha => (NE.out a ha).2) _) (Nat.lt_succ_self _) (fun a ha => (NE.out a ha).2) _
        · exact grown_set (grown_set (grown_set G9.out hgzL.out 0 _) hgzL.out 1 _) hgzL.out 2 _
      have HF := Lib.hid hfin
      clear hfin
      obtain ⟨k0, k1, k2⟩ := q3_of KR9.out
      obtain ⟨z0, z1, z2, f0, f1, f2⟩ := z3_of KZ9.out
      go_wp2_with fail
      obtain ⟨d0, d1, d2⟩ := q3_of F3
      clear F3
      unfold st3 at d0 d1 d2 HF
      exact bodyPost_ret (v := .agg #[.slice (some ⟨g1, 0, none⟩) n1 c1, (.int .i64 sec), (.int .i64 (cnt + 1))]) (by simp [results, Try.results80, go_sem, d0, d1, d2]) rfl HF.out
    · have t1 : (sec != ot) = true := by simp [hs]
      have HFIN : Hid (usedF ⟨ns, sec, cnt⟩ on ot wn = ⟨ns2, ot, 1⟩) := by show _ = _; rw [HNS.out, if_neg hs]; rfl
      clear hs
      have KR8 : Hid (Blk (w2.setCell ⟨gr, 1, none⟩ (.int .i64 ot)) gr 138 #[.slice (some ⟨g1, 0, none⟩) n1 c1, .int .i64 ot, .int .i64 cnt]) := blk_st KR2.out 1 _
      have KR7 : Hid (Blk ((w2.setCell ⟨gr, 1, none⟩ (.int .i64 ot)).setCell ⟨gr, 2, none⟩ (.int .i64 0)) gr 138 #[.slice (some ⟨g1, 0, none⟩) n1 c1, .int .i64 ot, .int .i64 0]) := blk_st KR8.out 2 _
      have KZ7 : Hid (Blk ((w2.setCell ⟨gr, 1, none⟩ (.int .i64 ot)).setCell ⟨gr, 2, none⟩ (.int .i64 0)) gz 138 #[.slice none 0 0, .int .i64 0, .int .i64 0]) := far_st (far_st KZ2.out hgrz.out _) hgrz.out _
      have RI7 : Hid (Ris ((w2.setCell ⟨gr, 1, none⟩ (.int .i64 ot)).setCell ⟨gr, 2, none⟩ (.int .i64 0)) ((w2.setCell ⟨gr, 1, none⟩ (.int .i64 ot)).setCell ⟨gr, 2, none⟩ (.int .i64 0)).heap.size (some ⟨g1, 0, none⟩) ns2) := Rd.keep' (Rd.keep' RI2.out (Nat.lt_succ_self _) (fun a ha => (NE.out a ha).1) _) (Nat.lt_succ_self _) (fun a ha => (NE.out a ha).1) _
      have G7 : Hid (w.grownBy ((w2.setCell ⟨gr, 1, none⟩ (.int .i64 ot)).setCell ⟨gr, 2, none⟩ (.int .i64 0)) (Value.slice A 0 0).ownBlock) := grown_set (grown_set G2.out hgrL.out 1 _) hgrL.out 2 _
      obtain ⟨k0, k1, k2, f0, f1, f2⟩ := z3_of KR2.out
      obtain ⟨o0, o1, o2, o3, o4, o5, o6⟩ := q7_of KO2.out
      go_upto_region 7 with fail
      clear k0 k1 k2 f0 f1 f2 o0 o1 o2 o3 o4 o5 o6 KR8
      generalize ((w2.setCell ⟨gr, 1, none⟩ (.int .i64 ot)).setCell ⟨gr, 2, none⟩ (.int .i64 0)) = w7 at KR7 KZ7 RI7 G7 ⊢
      have KR9 : Hid (Blk (w7.setCell ⟨gr, 2, none⟩ (.int .i64 1)) gr 138 #[.slice (some ⟨g1, 0, none⟩) n1 c1, .int .i64 ot, .int .i64 1]) := blk_st KR7.out 2 _
      have KZ9 : Hid (Blk (w7.setCell ⟨gr, 2, none⟩ (.int .i64 1)) gz 138 #[.slice none 0 0, .int .i64 0, .int .i64 0]) := far_st KZ7.out hgrz.out _
      have RI9 : Hid (Ris (w7.setCell ⟨gr, 2, none⟩ (.int .i64 1)) (w7.setCell ⟨gr, 2, none⟩ (.int .i64 1)).heap.size (some ⟨g1, 0, none⟩) ns2) := Rd.keep' RI7.out (Nat.lt_succ_self _) (fun a ha => (NE.out a ha).1) _
      have G9 : Hid (w.grownBy (w7.setCell ⟨gr, 2, none⟩ (.int .i64 1)) (Value.slice A 0 0).ownBlock) := grown_set G7.out hgrL.out 2 _
      obtain ⟨k0, k1, k2, f0, f1, f2⟩ := z3_of KR7.out
      go_upto_region 9 with fail
      clear k0 k1 k2 f0 f1 f2 KR7 KZ7 RI7 G7
      generalize w7.setCell ⟨gr, 2, none⟩ (.int .i64 1) = w9 at KR9 KZ9 RI9 G9 ⊢
      have F3 : Blk (st3 w9 gz (.slice (some ⟨g1, 0, none⟩) n1 c1) (.int .i64 ot) (.int .i64 1)) gz 138 #[.slice (some ⟨g1, 0, none⟩) n1 c1, (.int .i64 ot), (.int .i64 1)] := st3_blk KZ9.out
      have hfin : MadeUs base (usedF ⟨ns, sec, cnt⟩ on ot wn) A w (.returned (.agg #[.slice (some ⟨g1, 0, none⟩) n1 c1, (.int .i64 ot), (.int .i64 1)])) (st3 w9 gz (.slice (some ⟨g1, 0, none⟩) n1 c1) (.int .i64 ot) (.int .i64 1)) := by
        refine ⟨(some ⟨g1, 0, none⟩), c1, ?_, ?_, FR.out, HPA.out, ?_⟩
        · rw [HFIN.out, HN2.out]
        · rw [HFIN.out]
          unfold st3
          exact Rd.keep' (Rd.keep' (Rd.keep' RI9.out (Nat.lt_succ_self _) (fun a ha => (NE.out a ha).2) _) (Nat.lt_succ_self _) (fun a ha => (NE.out a ha).2) _) (Nat.lt_succ_self _) (fun a ha => (NE.out a ha).2) _
        · exact grown_set (grown_set (grown_set G9.out hgzL.out 0 _) hgzL.out 1 _) hgzL.out 2 _
      have HF := Lib.hid hfin
      clear hfin
      obtain ⟨k0, k1, k2⟩ := q3_of KR9.out
      obtain ⟨z0, z1, z2, f0, f1, f2⟩ := z3_of KZ9.out
      go_wp2_with fail
      obtain ⟨d0, d1, d2⟩ := q3_of F3
      clear F3
      unfold st3 at d0 d1 d2 HF
      exact bodyPost_ret (v := .agg #[.slice (some ⟨g1, 0, none⟩) n1 c1, (.int .i64 ot), (.int .i64 1)]) (by simp [results, Try.results80, go_sem, d0, d1, d2]) rfl HF.out
end Go.Proofs.Ytkmkaidhpbjbnaa.Bku

/- Contracts of what book's calls ask: is a number in a list, a place in a row, an order among the open ones. Condition: the lists lie in memory and are not long. -/
namespace Go.Proofs.Ytkmkaidhpbjbnaa.Bkf
set_option maxRecDepth 100000
open Go.ChangeShapes Go.WideShapes Go.ChangeAt Go.RowKit Mem Tre Ref3 Law3 CrdB CrdC Bkp Bks
set_option linter.unusedVariables false
set_option linter.unusedSimpArgs false

set_option maxHeartbeats 1000000 in
theorem index_any (A : Option Addr) (n c : Nat) (l : List Int) (v : Int) (w : World) (hn : Hid (n = l.length)) (hl : Hid (Ris w w.heap.size A l)) (hmax : (n : Int) ≤ 1000000) :
    Calls Try.prog 86 #[.slice A n c, .int .i64 v] w (fun e w' => ∃ k : Int, e = .returned (.int .i64 k) ∧ w' = w ∧ decide (0 ≤ k) = l.contains v) := by
  go_enter Try.func86, Try.ntmps86
  go_wp2_with fail
  go_loopg [8] n (fun g s8 w' => ∃ i : Nat, i + g = n ∧ s8 = .int .i64 i ∧ Hid (∀ j, j < i → gI l j ≠ v) ∧ w' = w)
  case atStart => exact ⟨0, by omega, rfl, (fun j hj => by omega), rfl⟩
  case round =>
    obtain ⟨i, hi, rfl, hno, rfl⟩ := hrel
    by_cases hlt : i < n
    · obtain ⟨g, rfl⟩ : ∃ g, gk = g + 1 := ⟨gk - 1, by omega⟩
      have t0 : decide ((i : Int) < (n : Int)) = true := by simp; omega
      obtain ⟨b, o, hA, hb, hcc⟩ := Ris.at (i := i) hl.out (by rw [← hn.out]; exact hlt)
      have hc := hcc i (by rw [← hn.out]; exact hlt)
      subst hA
      generalize hx : gI l i = x at hc
      have HX := Lib.hid hx
      clear hcc hx
      by_cases hv : v = x
      · have t1 : (v == x) = true := by simp [hv]
        have hfin : Hid (decide (0 ≤ (i : Int)) = l.contains v) := by
          show _ = _
          have : v ∈ l := by
            rw [hv, ← HX.out]
            have hi' : i < l.length := by rw [← hn.out]; exact hlt
            simp [gI, hi']
          simp [this]
        clear hv
        go_wp2_with fail
        go_ret
        exact ⟨i, rfl, rfl, hfin.out⟩
      · have t1 : (v == x) = false := by simp [hv]
        have hno' : Hid (∀ j, j < i + 1 → gI l j ≠ v) := by
          intro j hj
          by_cases hji : j = i
          · subst hji; rw [HX.out]; exact fun e => hv e.symm
          · exact hno.out j (by omega)
        clear hv
        go_wp2_with fail
        go_roundg g
        case measure => omega
        case rel => exact ⟨i + 1, by omega, by rw [Int.natCast_add]; rfl, hno', rfl⟩
    · have t0 : decide ((i : Int) < (n : Int)) = false := by simp; omega
      have hfin : Hid (decide (0 ≤ (-1 : Int)) = l.contains v) := by
        show _ = _
        have : ¬ v ∈ l := by
          intro hm
          obtain ⟨j, hj, he⟩ := List.mem_iff_getElem.1 hm
          refine hno.out j (by have := hn.out; omega) ?_
          simp [gI, hj, he]
        simp [this]
      go_wp2_with fail
      go_ret
      exact ⟨-1, rfl, rfl, hfin.out⟩
theorem contains_any (A : Option Addr) (n c : Nat) (l : List Int) (v : Int) (w : World) (hn : Hid (n = l.length)) (hl : Hid (Ris w w.heap.size A l)) (hmax : (n : Int) ≤ 1000000) :
    Calls Try.prog 75 #[.slice A n c, .int .i64 v] w (fun e w' => e = .returned (.bool (l.contains v)) ∧ w' = w) := by
  go_enter Try.func75, Try.ntmps75
  go_wp2_with fail
  refine (index_any A n c l v _ hn hl hmax).mono ?_
  rintro e w1 ⟨k, rfl, rfl, hk⟩
  have HK := Lib.hid hk
  clear hk
  go_wp2_with fail
  go_ret
  exact ⟨by rw [← HK.out]; rfl, rfl⟩
theorem hasR_any (A : Option Addr) (n c : Nat) (k : Int) (w : World) :
    Calls Try.prog 74 #[.slice A n c, .int .i64 k] w (fun e w' => e = .returned (.bool (inQ n k)) ∧ w' = w) := by
  by_cases h0 : 0 ≤ k
  · by_cases h1 : k < (n : Int)
    · have e : Hid (inQ n k = true) := inQ_t h0 h1
      have t0 : decide (0 ≤ k) = true := by simp [h0]
      have t1 : decide (k < (n : Int)) = true := by simp [h1]
      clear h0 h1
      go_enter Try.func74, Try.ntmps74
      go_wp2_with fail
      go_ret
      exact ⟨by rw [e.out]; rfl, rfl⟩
    · have e : Hid (inQ n k = false) := inQ_f (by omega)
      have t0 : decide (0 ≤ k) = true := by simp [h0]
      have t1 : decide (k < (n : Int)) = false := by simp [h1]
      clear h0 h1
      go_enter Try.func74, Try.ntmps74
      go_wp2_with fail
      go_ret
      exact ⟨by rw [e.out]; rfl, rfl⟩
  · have e : Hid (inQ n k = false) := inQ_f (by omega)
    have t0 : decide (0 ≤ k) = false := by simp [h0]
    clear h0
    go_enter Try.func74, Try.ntmps74
    go_wp2_with fail
    go_ret
    exact ⟨by rw [e.out]; rfl, rfl⟩
theorem enA_eq (id a s p q n t lf st ep : Int) (x : Bool) : enA ⟨id, ⟨a, s, x, p, q, n, t⟩, lf, st, ep⟩ = .agg #[.int .i64 id, .int .i64 a, .int .i64 s, .bool x, .int .i64 p, .int .i64 q, .int .i64 n, .int .i64 t, .int .i64 lf, .int .i64 st, .int .i64 ep] := rfl
theorem place1_any (e : En) (gi : Nat) (k : Int) (w : World) (hc : w.cell? ⟨gi, 0, none⟩ = some (.int .i64 k)) :
    Calls Try.prog 91 #[enA e, .pointer (some ⟨gi, 0, none⟩)] w (fun r w' => r = .returned (.bool (e.id == k)) ∧ Below w.heap.size w w') := by
  obtain ⟨id, ⟨a, s, x, p, q, n, t⟩, lf, st, ep⟩ := e
  have hlt := World.block_lt_of_cell? w _ hc
  have hc' : ∀ o, (w.alloc o).cell? ⟨gi, 0, none⟩ = some (.int .i64 k) := fun o => (World.cell?_alloc_lt _ _ _ hlt).trans hc
  rw [enA_eq]
  go_enter Try.func91, Try.ntmps91
  go_wp2_with fail
  go_ret
  exact ⟨rfl, (Below.refl _ _).alloc (Nat.le_refl _) _⟩
set_option maxHeartbeats 2000000 in
theorem indexF_any (A : Option Addr) (n c : Nat) (l : List En) (gi : Nat) (kk : Int) (w : World) (hn : Hid (n = l.length)) (hl : Hid (Rd w w.heap.size A (ens l))) (hmax : (n : Int) ≤ 1000000) (hc : w.cell? ⟨gi, 0, none⟩ = some (.int .i64 kk)) :
    Calls Try.prog 90 #[.slice A n c, .func (.func 91) #[] #[.pointer (some ⟨gi, 0, none⟩)]] w (fun r w' => r = .returned (.int .i64 (placeF l kk)) ∧ Below w.heap.size w w') := by
  have hlt := World.block_lt_of_cell? w _ hc
  have HC : Hid (∀ w', Below w.heap.size w w' → w'.cell? ⟨gi, 0, none⟩ = some (.int .i64 kk)) := fun w' hb => (hb.cell (p := ⟨gi, 0, none⟩) hlt).trans hc
  clear hc hlt
  go_enter Try.func90, Try.ntmps90
  go_wp2_with fail
  go_loopg [8] n (fun g s8 w' => ∃ i : Nat, i + g = n ∧ s8 = .int .i64 i ∧ Hid (∀ j, j < i → (gE l j).id ≠ kk) ∧ Hid (Below w.heap.size w w'))
  case atStart => exact ⟨0, by omega, rfl, (fun j hj => by omega), Below.refl _ _⟩
  case round =>
    obtain ⟨i, hi, rfl, hno, hbel⟩ := hrel
    by_cases hlt : i < n
    · obtain ⟨g, rfl⟩ : ∃ g, gk = g + 1 := ⟨gk - 1, by omega⟩
      have t0 : decide ((i : Int) < (n : Int)) = true := by simp; omega
      obtain ⟨b, o, hA, hb, hcc⟩ := Ens.at (Rd.below' hl.out hbel.out hbel.out.size) (by have := hn.out; omega)
      have hcs := hcc i (by rw [← hn.out]; exact hlt)
      subst hA
      obtain ⟨E, hE⟩ : ∃ E, E = gE l i := ⟨_, rfl⟩
      rw [← hE] at hcs
      have HE := Lib.hid hE
      clear hcc hE
      obtain ⟨id, ⟨a, s, x, p, q, n, t⟩, lf, st, ep⟩ := E
      obtain ⟨c0, c1, c2, c3, c4, c5, c6, c7, c8, c9, c10⟩ := hcs
      simp only [] at c0 c1 c2 c3 c4 c5 c6 c7 c8 c9 c10
      have HCr := HC.out wr hbel.out
      by_cases hv : id = kk
      · have hfin : Hid (placeF l kk = (i : Int)) := by
          show _ = _
          have hp : posE l kk = i := posE_at l kk i hno.out (by have := hn.out; omega) (by rw [← HE.out]; exact hv)
          rw [placeF_t (by rw [hp]; have := hn.out; omega), hp]
        have t1 : (id == kk) = true := by simp [hv]
        clear hv
        go_wp2_with (go_at_call 91; refine (place1_any ⟨id, ⟨a, s, x, p, q, n, t⟩, lf, st, ep⟩ gi kk _ HCr).mono ?_; rw [t1]; rintro r w1 ⟨rfl, hb1⟩)
        go_ret
        exact ⟨by rw [hfin.out]; rfl, below_step hbel.out (by assumption)⟩
      · have hno' : Hid (∀ j, j < i + 1 → (gE l j).id ≠ kk) := by
          intro j hj
          by_cases hji : j = i
          · subst hji; rw [← HE.out]; exact hv
          · exact hno.out j (by omega)
        have t1 : (id == kk) = false := by simp [hv]
        clear hv
        go_wp2_with (go_at_call 91; refine (place1_any ⟨id, ⟨a, s, x, p, q, n, t⟩, lf, st, ep⟩ gi kk _ HCr).mono ?_; rw [t1]; rintro r w1 ⟨rfl, hb1⟩)
        go_roundg g
        case measure => omega
        case rel => exact ⟨i + 1, by omega, by rw [Int.natCast_add]; rfl, hno', below_step hbel.out (by assumption)⟩
    · have t0 : decide ((i : Int) < (n : Int)) = false := by simp; omega
      have hfin : Hid (placeF l kk = -1) := by
        show _ = _
        rw [placeF_f]
        rw [posE_none l kk (fun j hj => hno.out j (by have := hn.out; omega))]
        omega
      go_wp2_with fail
      go_ret
      exact ⟨by rw [hfin.out]; rfl, hbel.out⟩
theorem place_any (sh ca : Int) (A C : Option Addr) (nr no c d : Nat) (op : List En) (k : Int) (w : World) (HNO : Hid (no = op.length)) (h : Hid (Rd w w.heap.size C (ens op))) (hmax : (no : Int) ≤ 1000000) :
    Calls Try.prog 81 #[.agg #[.int .i64 sh, .int .i64 ca, .slice A nr c, .slice C no d], .int .i64 k] w (fun r w' => r = .returned (.int .i64 (placeF op k)) ∧ Below w.heap.size w w') := by
  have b0 : Hid (Below w.heap.size w ((w.alloc (.cells #[.int .i64 sh, .int .i64 ca, .slice A nr c, .slice C no d] 58)).alloc (.cells #[.int .i64 k] 3))) := ((Below.refl _ _).alloc (Nat.le_refl _) _).alloc (by simp) _
  have k0 : ((w.alloc (.cells #[.int .i64 sh, .int .i64 ca, .slice A nr c, .slice C no d] 58)).alloc (.cells #[.int .i64 k] 3)).cell? ⟨w.heap.size + 1, 0, none⟩ = some (.int .i64 k) := by
    have := (blk_hd (by simp) : Blk ((w.alloc (.cells #[.int .i64 sh, .int .i64 ca, .slice A nr c, .slice C no d] 58)).alloc (.cells #[.int .i64 k] 3)) (w.heap.size + 1) 3 #[.int .i64 k])
    exact this.cell 0
  go_enter Try.func81, Try.ntmps81
  go_wp2_with fail
  refine (indexF_any C no d op (w.heap.size + 1) k _ HNO (Rd.below' h.out b0.out b0.out.size) hmax k0).mono ?_
  rintro r w1 ⟨rfl, hb1⟩
  have HB := Lib.hid (below_step b0.out hb1)
  clear hb1
  go_wp2_with fail
  go_ret
  exact ⟨rfl, HB.out⟩
end Go.Proofs.Ytkmkaidhpbjbnaa.Bkf

/- Contracts of book's Worth and Begin, and of the number of the next order. Condition: the book lies in memory and is not long. -/
namespace Go.Proofs.Ytkmkaidhpbjbnaa.Bkh
set_option maxRecDepth 100000
open Go.ChangeShapes Go.WideShapes Go.ChangeAt Go.RowKit Mem Tre Ref3 Law3 CrdB CrdC Bkp Bks Bkf Stk
set_option linter.unusedVariables false
set_option linter.unusedSimpArgs false
set_option maxHeartbeats 2000000 in
theorem next_any (sk wi ra ta : Int) (A1 A2 A3 : Option Addr) (n1 n2 n3 c1 c2 c3 : Nat) (sh ca : Int) (A C : Option Addr) (nr no c d : Nat) (w : World) (h1 : 1 ≤ sk) (h2 : sk ≤ 1000) (h3 : 0 ≤ sh) (h4 : sh ≤ 1000) (h5 : 0 ≤ ca) (h6 : ca ≤ 1000000000) :
    Calls Try.prog 79 #[.agg #[.int .i64 sk, .int .i64 wi, .int .i64 ra, .int .i64 ta, .slice A1 n1 c1, .slice A2 n2 c2, .slice A3 n3 c3], .agg #[.int .i64 sh, .int .i64 ca, .slice A nr c, .slice C no d]] w (fun r w' => r = .returned (.int .i64 (sh + sk * ca)) ∧ Below w.heap.size w w') := by
  have b0 : Hid (Below w.heap.size w ((w.alloc (.cells #[.int .i64 sk, .int .i64 wi, .int .i64 ra, .int .i64 ta, .slice A1 n1 c1, .slice A2 n2 c2, .slice A3 n3 c3] 39)).alloc (.cells #[.int .i64 sh, .int .i64 ca, .slice A nr c, .slice C no d] 58))) := ((Below.refl _ _).alloc (Nat.le_refl _) _).alloc (by simp) _
  have q1 : 9223372036854774 ≤ (9223372036854775807 - sh).tdiv sk := by
    rw [Int.tdiv_eq_ediv_of_nonneg (by omega)]
    exact Int.le_ediv_of_mul_le (by omega) (by
      have : 9223372036854774 * sk ≤ 9223372036854774 * 1000 := Int.mul_le_mul_of_nonneg_left h2 (by decide)
      omega)
  have q2 : 0 ≤ sk * ca ∧ sk * ca ≤ 1000 * 1000000000 := ⟨Int.mul_nonneg (by omega) h5, Int.mul_le_mul h2 h6 h5 (by decide)⟩
  have e1 : wrap64 (sk * ca) = sk * ca := by unfold wrap64; omega
  have e2 : wrap64 (sh + sk * ca) = sh + sk * ca := by unfold wrap64; omega
  have E2 := Lib.hid e2
  have e3 : wrap64 (9223372036854775807 - sh) = 9223372036854775807 - sh := by unfold wrap64; omega
  have q3 : (9223372036854775807 - sh).tdiv sk ≤ 9223372036854775807 := by
    rw [Int.tdiv_eq_ediv_of_nonneg (by omega)]
    have := Int.ediv_le_self (b := sk) (show (0 : Int) ≤ 9223372036854775807 - sh by omega)
    omega
  have t1 : decide (sk < 1) = false := by simp; omega
  have t2 : decide (sh < 0) = false := by simp; omega
  have t3 : decide (ca < 0) = false := by simp; omega
  have e4 : IntKind.i64.wrap (9223372036854775807 - sh) = 9223372036854775807 - sh := by rw [IntKind.wrap_i64]; omega
  have e5 : IntKind.i64.wrap ((9223372036854775807 - sh).tdiv sk) = (9223372036854775807 - sh).tdiv sk := by rw [IntKind.wrap_i64]; omega
  have e6 : wrap64 ((9223372036854775807 - sh).tdiv sk) = (9223372036854775807 - sh).tdiv sk := by unfold wrap64; omega
  have t4 : decide ((9223372036854775807 - sh).tdiv sk ≤ ca) = false := by simp; omega
  have t5 : (sk == 0) = false := by rw [beq_eq_false_iff_ne]; omega
  have t6 : ¬ sk = 0 := by omega
  have HSK := Lib.hid h1
  go_enter Try.func79, Try.ntmps79
  go_upto_region 1 with fail
  clear q1 q2 q3 h1 h2 h3 h4 h5 h6
  go_quiet (fail)
  have hnq : Hid (Below w.heap.size w ((((w.alloc (.cells #[.int .i64 sk, .int .i64 wi, .int .i64 ra, .int .i64 ta, .slice A1 n1 c1, .slice A2 n2 c2, .slice A3 n3 c3] 39)).alloc (.cells #[.int .i64 sh, .int .i64 ca, .slice A nr c, .slice C no d] 58))).drewN nq)) := Below.drewN' b0.out nq
  go_wp2_with fail
  go_ret
  exact ⟨congrArg Ending.returned (congrArg (Value.int .i64) E2.out), hnq.out⟩
end Go.Proofs.Ytkmkaidhpbjbnaa.Bkh

/- A drawn region with stores behind all its loads: the loads are taken first, though a store writes what they read. Over any program. No condition. -/
namespace Go.Proofs.Ytkmkaidhpbjbnaa.Lat
set_option maxRecDepth 100000
open Go
section
variable {P : Program} {ops : Array Oper} {Q : Exit → Act → World → Prop} {md : Region.Mode} {T : World → Prop} {st : List Nat}

/-- none of the stores has come up -/
def clean (st : List Nat) (up : Array Bool) : Bool := st.all fun s => !(up.getD s false)
theorem clean_back {up : Array Bool} {i : Nat} (h : clean st (up.setIfInBounds i true) = true) : clean st up = true := by
  unfold clean at *
  rw [List.all_eq_true] at *
  intro s hs
  have h1 := h s hs
  by_cases e : i = s
  · subst e
    by_cases hl : i < up.size
    · simp [hl] at h1
    · simp [hl]
  · rw [getD_set_ne false e] at h1; exact h1
theorem clean_on {up : Array Bool} {i : Nat} (hi : st.contains i = false) (h : clean st up = true) : clean st (up.setIfInBounds i true) = true := by
  unfold clean at *
  rw [List.all_eq_true] at *
  intro s hs
  have e : i ≠ s := by rintro rfl; have : st.contains i = true := by simpa using hs
                       rw [hi] at this; cases this
  rw [getD_set_ne false e]; exact h s hs
/-- whatever comes up: T stands till the first of the stores -/
def wpL (P : Program) (md : Region.Mode) (ops : Array Oper) (Q : Exit → Act → World → Prop) (T : World → Prop) (st : List Nat) : Nat → Array Bool → Act → World → Prop
  | 0, up, a, w => Region.ready md ops up = [] ∧ Q .normal a w
  | k + 1, up, a, w => (Region.ready md ops up = [] → Q .normal a w) ∧
      ∀ i ∈ Region.ready md ops up, wpOp P ops Q i (fun a' w' => (clean st (up.setIfInBounds i true) = true → T w') ∧ wpL P md ops Q T st k (up.setIfInBounds i true) a' w') a w
theorem wpAny_of_L : ∀ (k : Nat) (up : Array Bool) (a : Act) (w : World), wpL P md ops Q T st k up a w → wpAny P md ops Q k up a w
  | 0, _, _, _, h => h
  | k + 1, up, _, _, h => ⟨h.1, fun i hi => wpOp_mono (fun a' w' h' => wpAny_of_L k (up.setIfInBounds i true) a' w' h'.2) (h.2 i hi)⟩
/-- each store waits for number i -/
def waits (md : Region.Mode) (ops : Array Oper) (st : List Nat) (i : Nat) : Bool :=
  st.all fun j => match ops[j]? with
    | some o => o.after.any fun e => Region.binds md e && e.on == i
    | none => true
theorem waits_spec {i j : Nat} {o : Oper} (h : waits md ops st i = true) (hj : st.contains j = true) (ho : ops[j]? = some o) : ∃ e ∈ o.after, Region.binds md e = true ∧ e.on = i := by
  unfold waits at h
  rw [List.all_eq_true] at h
  have h1 := h j (by simpa using hj)
  rw [ho] at h1
  simp only [Array.any_eq_true, Bool.and_eq_true, beq_iff_eq] at h1
  obtain ⟨n, hn, h2, h3⟩ := h1
  exact ⟨_, Array.getElem_mem hn, h2, h3⟩

theorem wpL_load {i : Nat} {oi : Oper} {v : Value} (hi : ops[i]? = some oi) (hs : Region.noSelect ops = true) (hQ : ∀ c a w, Q (.panic c) (a.put oi.dst v) w → Q (.panic c) a w) (hns : st.contains i = false) (hlt : waits md ops st i = true) :
    ∀ (k : Nat) (up : Array Bool) (a : Act) (w : World), Region.free md ops up i = true → (Region.ready md ops up).contains i = true → YieldsIf P ops T oi v a → clean st up = true → T w →
      wpL P md ops Q T st k (up.setIfInBounds i true) (a.put oi.dst v) w → wpL P md ops Q T st (k + 1) up a w := by
  suffices H0 : ∀ (k : Nat) (up : Array Bool) (a : Act) (w : World),
      (∀ j oj, ops[j]? = some oj → j ≠ i → up.getD j true = false → (∀ e ∈ oj.after, Region.binds md e = true → e.on ≠ i) → oi.apart ops oj = true) →
      i ∈ Region.ready md ops up → YieldsIf P ops T oi v a → clean st up = true → T w →
      wpL P md ops Q T st k (up.setIfInBounds i true) (a.put oi.dst v) w → wpL P md ops Q T st (k + 1) up a w by
    intro k up a w hf hr
    exact H0 k up a w (Region.free_spec hi hf) (by simpa using hr)
  intro k
  induction k with
  | zero =>
    intro up a w _ hr hy hc hT H
    refine ⟨fun h => (by rw [h] at hr; cases hr), fun j hj => ?_⟩
    by_cases hji : j = i
    · subst hji; exact hy.wpOp hi hT ⟨fun _ => hT, H⟩
    · have := ready_mono hj hji
      rw [H.1] at this
      cases this
  | succ k ih =>
    intro up a w hfree hr hy hc hT H
    refine ⟨fun h => (by rw [h] at hr; cases hr), fun j hj => ?_⟩
    by_cases hji : j = i
    · subst hji; exact hy.wpOp hi hT ⟨fun _ => hT, H⟩
    · have h1 := H.2 j (ready_mono hj hji)
      obtain ⟨hjun, oj, hoj, hall⟩ := mem_ready.1 hj
      have hno : ∀ e ∈ oj.after, Region.binds md e = true → e.on ≠ i := fun e he hb heq => by
        have a1 := hall e he hb
        have a0 := (mem_ready.1 hr).1
        rw [heq] at a1
        rcases Nat.lt_or_ge i up.size with h' | h'
        · simp [h'] at a0 a1; rw [a0] at a1; cases a1
        · simp [Array.getElem?_eq_none h'] at a1
      have hjl : st.contains j = false := by
        cases hcj : st.contains j with
        | false => rfl
        | true =>
          obtain ⟨e, he, hb, heq⟩ := waits_spec hlt hcj hoj
          exact absurd heq (hno e he hb)
      have hcj := clean_on hjl hc
      have hsel := Region.noSelect_spec hs
      have h2 := wpOp_putIf hoj (hfree j oj hoj hji hjun hno) (fun cs b => hsel i oi cs b hi) (fun cs b => hsel j oj cs b hoj) hQ hy h1
      have hfree' : ∀ n on_, ops[n]? = some on_ → n ≠ i → (up.setIfInBounds j true).getD n true = false →
          (∀ e ∈ on_.after, Region.binds md e = true → e.on ≠ i) → oi.apart ops on_ = true := fun n on_ hn hni hun hnw => by
        refine hfree n on_ hn hni ?_ hnw
        by_cases hjn : j = n
        · subst hjn; exact hjun
        · rw [getD_set_ne true hjn] at hun; exact hun
      have hsw : (up.setIfInBounds i true).setIfInBounds j true = (up.setIfInBounds j true).setIfInBounds i true := Array.setIfInBounds_comm _ _ (Ne.symm hji)
      refine wpOp_mono (fun a' w' h3 => ⟨fun _ => h3.2.1 (by rw [hsw]; exact clean_on hns hcj), ih (up.setIfInBounds j true) a' w' hfree' (ready_mono hr (Ne.symm hji)) h3.1 hcj (h3.2.1 (by rw [hsw]; exact clean_on hns hcj)) ?_⟩) h2
      rw [← hsw]
      exact h3.2.2

theorem wpL_word {i : Nat} {oi : Oper} {v : Value} (hi : ops[i]? = some oi) (hs : Region.noSelect ops = true) (hQ : ∀ c a w, Q (.panic c) (a.put oi.dst v) w → Q (.panic c) a w) (hns : st.contains i = false) :
    ∀ (k : Nat) (up : Array Bool) (a : Act) (w : World), Region.free md ops up i = true → (Region.ready md ops up).contains i = true → YieldsIf P ops (fun _ => True) oi v a → (clean st up = true → T w) →
      wpL P md ops Q T st k (up.setIfInBounds i true) (a.put oi.dst v) w → wpL P md ops Q T st (k + 1) up a w := by
  suffices H0 : ∀ (k : Nat) (up : Array Bool) (a : Act) (w : World),
      (∀ j oj, ops[j]? = some oj → j ≠ i → up.getD j true = false → (∀ e ∈ oj.after, Region.binds md e = true → e.on ≠ i) → oi.apart ops oj = true) →
      i ∈ Region.ready md ops up → YieldsIf P ops (fun _ => True) oi v a → (clean st up = true → T w) →
      wpL P md ops Q T st k (up.setIfInBounds i true) (a.put oi.dst v) w → wpL P md ops Q T st (k + 1) up a w by
    intro k up a w hf hr
    exact H0 k up a w (Region.free_spec hi hf) (by simpa using hr)
  intro k
  induction k with
  | zero =>
    intro up a w _ hr hy hT H
    refine ⟨fun h => (by rw [h] at hr; cases hr), fun j hj => ?_⟩
    by_cases hji : j = i
    · subst hji; exact hy.wpOp hi trivial ⟨fun h => hT (clean_back h), H⟩
    · have := ready_mono hj hji
      rw [H.1] at this
      cases this
  | succ k ih =>
    intro up a w hfree hr hy hT H
    refine ⟨fun h => (by rw [h] at hr; cases hr), fun j hj => ?_⟩
    by_cases hji : j = i
    · subst hji; exact hy.wpOp hi trivial ⟨fun h => hT (clean_back h), H⟩
    · have h1 := H.2 j (ready_mono hj hji)
      obtain ⟨hjun, oj, hoj, hall⟩ := mem_ready.1 hj
      have hno : ∀ e ∈ oj.after, Region.binds md e = true → e.on ≠ i := fun e he hb heq => by
        have a1 := hall e he hb
        have a0 := (mem_ready.1 hr).1
        rw [heq] at a1
        rcases Nat.lt_or_ge i up.size with h' | h'
        · simp [h'] at a0 a1; rw [a0] at a1; cases a1
        · simp [Array.getElem?_eq_none h'] at a1
      have hsel := Region.noSelect_spec hs
      have h2 := wpOp_putIf hoj (hfree j oj hoj hji hjun hno) (fun cs b => hsel i oi cs b hi) (fun cs b => hsel j oj cs b hoj) hQ hy h1
      have hfree' : ∀ n on_, ops[n]? = some on_ → n ≠ i → (up.setIfInBounds j true).getD n true = false →
          (∀ e ∈ on_.after, Region.binds md e = true → e.on ≠ i) → oi.apart ops on_ = true := fun n on_ hn hni hun hnw => by
        refine hfree n on_ hn hni ?_ hnw
        by_cases hjn : j = n
        · subst hjn; exact hjun
        · rw [getD_set_ne true hjn] at hun; exact hun
      have hsw : (up.setIfInBounds i true).setIfInBounds j true = (up.setIfInBounds j true).setIfInBounds i true := Array.setIfInBounds_comm _ _ (Ne.symm hji)
      refine wpOp_mono (fun a' w' h3 => ⟨fun hcj => h3.2.1 (by rw [hsw]; exact clean_on hns hcj), ih (up.setIfInBounds j true) a' w' hfree' (ready_mono hr (Ne.symm hji)) h3.1 (fun hcj => h3.2.1 (by rw [hsw]; exact clean_on hns hcj)) ?_⟩) h2
      rw [← hsw]
      exact h3.2.2
theorem wpL_done {up : Array Bool} {a : Act} {w : World} (hr : Region.ready md ops up = []) (h : Q .normal a w) : ∀ k, wpL P md ops Q T st k up a w
  | 0 => ⟨hr, h⟩
  | _ + 1 => ⟨fun _ => h, by rw [hr]; simp⟩
/-- one step may come up, behind a store or a store itself: nothing is to be shown -/
theorem wpL_late {n k : Nat} {o : Oper} {up : Array Bool} {a : Act} {w : World} (hr : Region.ready md ops up = [n]) (ho : ops[n]? = some o) (hk : clean st (up.setIfInBounds n true) = false)
    (h : ∀ K : Act → World → Prop, Shut (∀ a w, wpL P md ops Q T st k (up.setIfInBounds n true) a w → K a w) → if Region.wanted o (yielded ops a.tmps) = true then Oper.wp P o a w K Q else K (a.put o.dst undef) w) :
    wpL P md ops Q T st (k + 1) up a w := by
  refine ⟨fun h0 => (by rw [hr] at h0; cases h0), ?_⟩
  rw [hr]
  intro j hj
  simp only [List.mem_cons, List.not_mem_nil, or_false] at hj
  subst hj
  exact wpOp_step ho (fun K hK => h K (fun a w hW => hK a w ⟨fun e => (by rw [hk] at e; cases e), hW⟩))
/-- one step may come up: T is to be shown behind it -/
theorem wpL_next {n k : Nat} {o : Oper} {up : Array Bool} {a : Act} {w : World} (hr : Region.ready md ops up = [n]) (ho : ops[n]? = some o)
    (h : ∀ K : Act → World → Prop, Shut (∀ a w, T w → wpL P md ops Q T st k (up.setIfInBounds n true) a w → K a w) → if Region.wanted o (yielded ops a.tmps) = true then Oper.wp P o a w K Q else K (a.put o.dst undef) w) :
    wpL P md ops Q T st (k + 1) up a w := by
  refine ⟨fun h0 => (by rw [hr] at h0; cases h0), ?_⟩
  rw [hr]
  intro j hj
  simp only [List.mem_cons, List.not_mem_nil, or_false] at hj
  subst hj
  exact wpOp_step ho (fun K hK => h K (fun a w hT hW => hK a w ⟨fun _ => hT, hW⟩))
theorem wp_region_L {id : Nat} {a : Act} {w : World} (hm : P.follows .mixedOrders = true)
    (h : wpL P .any ops Q T st ops.size (Array.replicate ops.size false) a w.drew) : (Code.region id ops true).wp P Q a w :=
  wp_region_any hm (wpAny_of_L _ _ _ _ h)
end
end Go.Proofs.Ytkmkaidhpbjbnaa.Lat

/- Contract of book's Add: an order comes. Condition: the book lies in memory and is not long, the order's account is there. -/
namespace Go.Proofs.Ytkmkaidhpbjbnaa.Bka
set_option maxRecDepth 100000
open Go.ChangeShapes Go.WideShapes Go.ChangeAt Go.RowKit Mem Tre Ref3 Law3 Crd CrdB CrdC Rr4 Bkp Bks Bkf Bkh Bcl Dlk Stk Apt Bko Bku Lat
set_option linter.unusedVariables false
set_option linter.unusedSimpArgs false
/-- none of a book's blocks lies ahead of base -/
def Fb (base : Nat) (A C : Option Addr) (rl : List Rc) : Prop := (∀ a, A = some a → base ≤ a.block) ∧ (∀ a, C = some a → base ≤ a.block) ∧ ∀ i, i < rl.length → ∀ a, (gC rl i).A = some a → base ≤ a.block
/-- a book and a number, in new memory -/
def MadeB2 (b : Bk) (x : Int) (w : World) (e : Ending) (w' : World) : Prop :=
  ∃ A C c d rl, e = .returned (.tuple #[bkA A C c d b, .int .i64 x]) ∧ Bm w' A C rl b ∧ Fb w.heap.size A C rl ∧ Below w.heap.size w w'
theorem Bo_mono {base base' : Nat} {w : World} {A C : Option Addr} {c d : Nat} {rl : List Rc} {b : Bk} (h : Bo base w A C c d rl b) (hb : base' ≤ base) : Bo base' w A C c d rl b :=
  ⟨own_mono h.r hb, own_mono h.o hb, h.e, fun k hk => own_mono (h.own k hk) hb, h.ap⟩
theorem Bo_st {base : Nat} {w : World} {A C : Option Addr} {c d : Nat} {rl : List Rc} {b : Bk} (h : Bo base w A C c d rl b) {g : Nat} {te : TypeId} {cs : Array Value} (hk : Blk w g te cs) (h1 : 138 ≠ te) (h2 : 128 ≠ te) (h3 : 2 ≠ te) (i : Nat) (x : Value) : Bo base (w.setCell ⟨g, i, none⟩ x) A C c d rl b :=
  ⟨own_st h.r hk h1 i x, own_st h.o hk h2 i x, h.e, fun k hk' => own_st (h.own k hk') hk h3 i x, h.ap⟩
theorem Bo_st4 {base : Nat} {w : World} {A C : Option Addr} {c d : Nat} {rl : List Rc} {b : Bk} (h : Bo base w A C c d rl b) {g : Nat} {te : TypeId} {u0 u1 u2 u3 : Value} (hk : Blk w g te #[u0, u1, u2, u3]) (h1 : 138 ≠ te) (h2 : 128 ≠ te) (h3 : 2 ≠ te) (v0 v1 v2 v3 : Value) : Bo base (Stk.st4 w g v0 v1 v2 v3) A C c d rl b :=
  ⟨own_st4 h.r hk h1, own_st4 h.o hk h2, h.e, fun k hk' => own_st4 (h.own k hk') hk h3, h.ap⟩
theorem Bo_fb {base : Nat} {w : World} {A C : Option Addr} {c d : Nat} {rl : List Rc} {b : Bk} (h : Bo base w A C c d rl b) : Fb base A C rl :=
  ⟨own_fresh h.r, own_fresh h.o, fun i hi => own_fresh (h.own i hi)⟩
theorem Bo_len {base : Nat} {w : World} {A C : Option Addr} {c d : Nat} {rl : List Rc} {b : Bk} (h : Bo base w A C c d rl b) : rl.length = b.rows.length := by rw [← h.e]; simp
/-- ahead of a row's change: all rows of the call's own -/
structure A7 (w0 w : World) (rl : List Rc) (gr nr cr no1 : Nat) (A6 : Option Addr) (c6 : Nat) (rows : List Ro) (op : List En) : Prop where
  r : w.ownsRow w0.heap.size 138 3 (.slice (some ⟨gr, 0, none⟩) nr cr) nr (rcs rl)
  o : w.ownsRow w0.heap.size 128 11 (.slice A6 no1 c6) no1 (ens op)
  e : rl.map Rc.r = rows
  own : ∀ k, k < rl.length → OwR w0.heap.size w (gC rl k)
  ap : Apa rl rl.length
  b : Below w0.heap.size w0 w
/-- behind it: the numbers are read -/
structure A9 (w0 w : World) (rl : List Rc) (gr nr cr no1 : Nat) (A6 : Option Addr) (c6 : Nat) (rows : List Ro) (op : List En) (gR : Nat) : Prop where
  r : w.ownsRow w0.heap.size 138 3 (.slice (some ⟨gr, 0, none⟩) nr cr) nr (rcs rl)
  o : w.ownsRow w0.heap.size 128 11 (.slice A6 no1 c6) no1 (ens op)
  e : rl.map Rc.r = rows
  n : ∀ k, k < rl.length → Ris w w.heap.size (gC rl k).A (gC rl k).r.ns
  f : ∀ k, k < rl.length → ∀ a, (gC rl k).A = some a → w0.heap.size ≤ a.block
  ne : ∀ k, k < rl.length → ∀ a, (gC rl k).A = some a → a.block ≠ gR
  b : Below w0.heap.size w0 w
theorem own_ne_A {w w8 : World} {base n c : Nat} {A : Option Addr} {xs : List Value} (h : w.ownsRow base 2 1 (.slice A n c) n xs) {b2 s2 n2 : Nat} {e2 : TypeId} {v2 : Value} {x2 : List Value} (k : w.ownsRow b2 e2 s2 v2 n2 x2) (hne : e2 ≠ 2) (hg : w.grownBy w8 (Value.slice A 0 0).ownBlock) : w8.ownsRow b2 e2 s2 v2 n2 x2 := by
  rw [← ownBlock_len A n c] at hg
  exact own_grown k h hne hg
theorem A7.used {w0 w w8 : World} {rl : List Rc} {gr nr cr no1 : Nat} {A6 : Option Addr} {c6 : Nat} {rows : List Ro} {op : List En} (h : A7 w0 w rl gr nr cr no1 A6 c6 rows op) {i : Nat} (hi : i < rl.length) {gR : Nat} {cs : Array Value} (hR : Blk w gR 58 cs)
    (hg : w.grownBy w8 (Value.slice (gC rl i).A 0 0).ownBlock) {A8 : Option Addr} {uns : List Int} (hr : Ris w8 w8.heap.size A8 uns) (hf : ∀ a, A8 = some a → w0.heap.size ≤ a.block) (hp : ∀ a, A8 = some a → (Value.slice (gC rl i).A 0 0).ownBlock = some a.block ∨ w.heap.size ≤ a.block) (c8 : Nat) (us uc : Int) :
    A9 w0 (((w8.setCell ⟨gr, i * 3, none⟩ (.slice A8 uns.length c8)).setCell ⟨gr, i * 3 + 1, none⟩ (.int .i64 us)).setCell ⟨gr, i * 3 + 2, none⟩ (.int .i64 uc)) (rl.set i ⟨A8, c8, ⟨uns, us, uc⟩⟩) gr nr cr no1 A6 c6 (rows.set i ⟨uns, us, uc⟩) op gR := by
  have hgrl := World.ownsRow.lt h.r gr rfl
  have h8r := own_ne_A (h.own i hi) h.r (by decide) hg
  have h8o := own_ne_A (h.own i hi) h.o (by decide) hg
  obtain ⟨s1, g1⟩ := World.ownsRow.stored h8r (i * 3) (.slice A8 uns.length c8)
  obtain ⟨s2, g2⟩ := World.ownsRow.stored s1 (i * 3 + 1) (.int .i64 us)
  obtain ⟨s3, g3⟩ := World.ownsRow.stored s2 (i * 3 + 2) (.int .i64 uc)
  have hne8 : ∀ a, A8 = some a → a.block ≠ gr := by
    intro a ha e
    rcases hp a ha with h1 | h1
    · have := own_ne h.r (h.own i hi) (by decide)
      rcases this with h2 | h2
      · simp [Value.ownBlock] at h2
      · refine h2 ?_
        rw [ownBlock_len (gC rl i).A, h1, e]; rfl
    · omega
  have hk : ∀ {b2 s2 n2 : Nat} {e2 : TypeId} {v2 : Value} {x2 : List Value}, w8.ownsRow b2 e2 s2 v2 n2 x2 → e2 ≠ 138 → ((((w8.setCell ⟨gr, i * 3, none⟩ (.slice A8 uns.length c8)).setCell ⟨gr, i * 3 + 1, none⟩ (.int .i64 us)).setCell ⟨gr, i * 3 + 2, none⟩ (.int .i64 uc))).ownsRow b2 e2 s2 v2 n2 x2 := fun k hne =>
    own_grown (own_grown (own_grown k h8r hne g1) s1 hne g2) s2 hne g3
  have hlen : ∀ k, k < (rl.set i ⟨A8, c8, ⟨uns, us, uc⟩⟩).length → k < rl.length := fun k hk => by simpa using hk
  have hnR : ∀ k, k < rl.length → ∀ a, (gC rl k).A = some a → a.block ≠ gR := by
    intro k hk a ha e
    refine blk_own_ne hR (h.own k hk) (by decide) ?_
    rw [ha]
    simp [Value.ownBlock, e]
  have hfR : ∀ k, k < rl.length → ∀ a, (gC rl k).A = some a → w0.heap.size ≤ a.block := fun k hk => own_fresh (h.own k hk)
  refine ⟨?_, hk h8o (by decide), ?_, ?_, ?_, ?_, ?_⟩
  · rw [rcs_set _ _ _ hi]
    exact s3
  · rw [List.map_set, h.e]
  · intro k hk'
    have hkl := hlen k hk'
    rw [gC_set _ _ _ _ hi]
    by_cases hki : k = i
    · rw [if_pos hki]
      exact Rd.keep' (Rd.keep' (Rd.keep' hr (Nat.lt_succ_self _) hne8 _) (Nat.lt_succ_self _) hne8 _) (Nat.lt_succ_self _) hne8 _
    · rw [if_neg hki]
      have hap : (Value.slice (gC rl k).A (gC rl k).r.ns.length (gC rl k).c).ownBlock = none ∨ (Value.slice (gC rl k).A (gC rl k).r.ns.length (gC rl k).c).ownBlock ≠ (Value.slice (gC rl i).A 0 0).ownBlock := by
        rw [ownBlock_len]
        cases hA : (gC rl k).A with
        | none => exact .inl rfl
        | some a =>
          cases hB : (gC rl i).A with
          | none => exact .inr (by simp [Value.ownBlock])
          | some b =>
            refine .inr ?_
            simp only [Value.ownBlock, ne_eq, Option.some.injEq]
            rcases Nat.lt_or_gt_of_ne hki with hlt | hlt
            · exact h.ap k i hlt hi a b hA hB
            · exact fun e => h.ap i k hlt hkl b a hB hA e.symm
      exact Rd.of_own (hk (World.ownsRow.kept (h.own k hkl) hg hap) (by decide))
  · intro k hk' a ha
    have hkl := hlen k hk'
    rw [gC_set _ _ _ _ hi] at ha
    by_cases hki : k = i
    · rw [if_pos hki] at ha; exact hf a ha
    · rw [if_neg hki] at ha; exact hfR k hkl a ha
  · intro k hk' a ha
    have hkl := hlen k hk'
    rw [gC_set _ _ _ _ hi] at ha
    by_cases hki : k = i
    · rw [if_pos hki] at ha
      rcases hp a ha with h1 | h1
      · intro e
        refine blk_own_ne hR (h.own i hi) (by decide) ?_
        rw [ownBlock_len (gC rl i).A, h1, e]
      · have := hR.lt; omega
    · rw [if_neg hki] at ha; exact hnR k hkl a ha
  · have hgb : w0.heap.size ≤ gr := own_fresh h.r _ rfl
    have hb8 : Below w0.heap.size w0 w8 := h.b.grown hg h.b.size (fun q hq => by
      have h1 := own_fresh (h.own i hi)
      cases hB : (gC rl i).A with
      | none => rw [hB] at hq; simp [Value.ownBlock] at hq
      | some b =>
        rw [hB] at hq
        simp only [Value.ownBlock, Option.some.injEq] at hq
        have := h1 b hB
        omega)
    exact ((hb8.setCell (p := ⟨gr, i * 3, none⟩) hgb _).setCell (p := ⟨gr, i * 3 + 1, none⟩) hgb _).setCell (p := ⟨gr, i * 3 + 2, none⟩) hgb _
theorem A9.fin {w0 w : World} {rl : List Rc} {gr nr cr no1 : Nat} {A6 : Option Addr} {c6 : Nat} {rows : List Ro} {op : List En} {gR : Nat} (h : A9 w0 w rl gr nr cr no1 A6 c6 rows op gR) {u0 u1 u2 u3 : Value} (hk : Blk w gR 58 #[u0, u1, u2, u3]) (hgR : w0.heap.size ≤ gR) (v0 v1 v2 v3 : Value) (sh ca : Int) :
    Bm (Stk.st4 w gR v0 v1 v2 v3) (some ⟨gr, 0, none⟩) A6 rl ⟨sh, ca, rows, op⟩ ∧ Fb w0.heap.size (some ⟨gr, 0, none⟩) A6 rl ∧ Below w0.heap.size w0 (Stk.st4 w gR v0 v1 v2 v3) := by
  refine ⟨⟨Rd.of_own (own_st4 h.r hk (by decide)), h.e, ?_, Rd.of_own (own_st4 h.o hk (by decide))⟩, ⟨own_fresh h.r, own_fresh h.o, h.f⟩, st4_below h.b hgR⟩
  intro k hk'
  unfold Stk.st4
  exact Rd.keep' (Rd.keep' (Rd.keep' (Rd.keep' (h.n k hk') (Nat.lt_succ_self _) (h.ne k hk') _) (Nat.lt_succ_self _) (h.ne k hk') _) (Nat.lt_succ_self _) (h.ne k hk') _) (Nat.lt_succ_self _) (h.ne k hk') _
set_option maxHeartbeats 8000000 in
theorem add_any (sk ra ta : Int) (wn : Nat) (A1 A2 A3 : Option Addr) (n1 n2 n3 c1 c2 c3 : Nat) (sh ca : Int) (A C : Option Addr) (nr no c d : Nat) (rl : List Rc) (bk : Bk) (i : Nat) (os op oq on ot : Int) (ox : Bool) (ep : Int) (w : World) (hsh : Hid (sh = bk.sh ∧ ca = bk.ca)) (hnr : Hid (nr = bk.rows.length)) (hno : Hid (no = bk.op.length)) (hm : Hid (Bm w A C rl bk)) (hf : Hid (FewB bk)) (h1 : 1 ≤ sk) (h2 : sk ≤ 1000) (hwn : wn ≤ 1000) (hir : i < nr) :
    Calls Try.prog 53 #[.agg #[.int .i64 sk, .int .i64 (wn : Int), .int .i64 ra, .int .i64 ta, .slice A1 n1 c1, .slice A2 n2 c2, .slice A3 n3 c3], .agg #[.int .i64 sh, .int .i64 ca, .slice A nr c, .slice C no d], .agg #[.int .i64 (i : Int), .int .i64 os, .bool ox, .int .i64 op, .int .i64 oq, .int .i64 on, .int .i64 ot], .int .i64 ep] w (MadeB2 (addF sk wn bk ⟨(i : Int), os, ox, op, oq, on, ot⟩ ep) (bk.sh + sk * bk.ca) w) := by
  obtain ⟨i0, hi, hz0, hz1, hz2⟩ := info_parts infoE
  have hl1 : nr ≤ 1000 := by rw [hnr.out]; exact hf.out.rl
  have hl2 : no ≤ 1000 := by rw [hno.out]; exact hf.out.ol
  have hs0 : 0 ≤ sh ∧ sh ≤ 1000 := by rw [hsh.out.1]; exact hf.out.sh
  have hc0 : 0 ≤ ca ∧ ca ≤ 1000000000 := by rw [hsh.out.2]; exact hf.out.ca
  have q2 : 0 ≤ sk * ca := Int.mul_nonneg (by omega) hc0.1
  obtain ⟨idv, hidv⟩ : ∃ v, v = sh + sk * ca := ⟨_, rfl⟩
  have N := fun W => next_any sk (wn : Int) ra ta A1 A2 A3 n1 n2 n3 c1 c2 c3 sh ca A C nr no c d W h1 h2 hs0.1 hs0.2 hc0.1 hc0.2
  rw [← hidv] at N
  have t1 : (idv == -1) = false := by rw [beq_eq_false_iff_ne]; omega
  have e5 : wrap64 (ca + 1) = ca + 1 := by unfold wrap64; omega
  have HID := Lib.hid hidv
  clear hidv q2 h1 h2
  have hin : inQ nr (i : Int) = true := inQ_t (by omega) (by omega)
  have H := fun W => hasR_any A nr c (i : Int) W
  rw [hin] at H
  clear hin
  have b0 : Hid (Below w.heap.size w ((((w.alloc (.cells #[.int .i64 sk, .int .i64 (wn : Int), .int .i64 ra, .int .i64 ta, .slice A1 n1 c1, .slice A2 n2 c2, .slice A3 n3 c3] 39)).alloc (.cells #[.int .i64 sh, .int .i64 ca, .slice A nr c, .slice C no d] 58)).alloc (.cells #[.int .i64 (i : Int), .int .i64 os, .bool ox, .int .i64 op, .int .i64 oq, .int .i64 on, .int .i64 ot] 48)).alloc (.cells #[.int .i64 0, .int .i64 0, .slice none 0 0, .slice none 0 0] 58))) := ((((Below.refl _ _).alloc (Nat.le_refl _) _).alloc (by simp) _).alloc (by simp <;> omega) _).alloc (by simp <;> omega) _
  have K0 : Hid (Blk ((((w.alloc (.cells #[.int .i64 sk, .int .i64 (wn : Int), .int .i64 ra, .int .i64 ta, .slice A1 n1 c1, .slice A2 n2 c2, .slice A3 n3 c3] 39)).alloc (.cells #[.int .i64 sh, .int .i64 ca, .slice A nr c, .slice C no d] 58)).alloc (.cells #[.int .i64 (i : Int), .int .i64 os, .bool ox, .int .i64 op, .int .i64 oq, .int .i64 on, .int .i64 ot] 48)).alloc (.cells #[.int .i64 0, .int .i64 0, .slice none 0 0, .slice none 0 0] 58)) w.heap.size 39 #[.int .i64 sk, .int .i64 (wn : Int), .int .i64 ra, .int .i64 ta, .slice A1 n1 c1, .slice A2 n2 c2, .slice A3 n3 c3]) := (((Blk.fresh w _ _).alloc _).alloc _).alloc _
  have K1 : Hid (Blk ((((w.alloc (.cells #[.int .i64 sk, .int .i64 (wn : Int), .int .i64 ra, .int .i64 ta, .slice A1 n1 c1, .slice A2 n2 c2, .slice A3 n3 c3] 39)).alloc (.cells #[.int .i64 sh, .int .i64 ca, .slice A nr c, .slice C no d] 58)).alloc (.cells #[.int .i64 (i : Int), .int .i64 os, .bool ox, .int .i64 op, .int .i64 oq, .int .i64 on, .int .i64 ot] 48)).alloc (.cells #[.int .i64 0, .int .i64 0, .slice none 0 0, .slice none 0 0] 58)) (w.heap.size + 1) 58 #[.int .i64 sh, .int .i64 ca, .slice A nr c, .slice C no d]) := Blk.alloc (Blk.alloc (blk_hd (by simp)) _) _
  have K2 : Hid (Blk ((((w.alloc (.cells #[.int .i64 sk, .int .i64 (wn : Int), .int .i64 ra, .int .i64 ta, .slice A1 n1 c1, .slice A2 n2 c2, .slice A3 n3 c3] 39)).alloc (.cells #[.int .i64 sh, .int .i64 ca, .slice A nr c, .slice C no d] 58)).alloc (.cells #[.int .i64 (i : Int), .int .i64 os, .bool ox, .int .i64 op, .int .i64 oq, .int .i64 on, .int .i64 ot] 48)).alloc (.cells #[.int .i64 0, .int .i64 0, .slice none 0 0, .slice none 0 0] 58)) (w.heap.size + 2) 48 #[.int .i64 (i : Int), .int .i64 os, .bool ox, .int .i64 op, .int .i64 oq, .int .i64 on, .int .i64 ot]) := Blk.alloc (blk_hd (by simp)) _
  have K3 : Hid (Blk ((((w.alloc (.cells #[.int .i64 sk, .int .i64 (wn : Int), .int .i64 ra, .int .i64 ta, .slice A1 n1 c1, .slice A2 n2 c2, .slice A3 n3 c3] 39)).alloc (.cells #[.int .i64 sh, .int .i64 ca, .slice A nr c, .slice C no d] 58)).alloc (.cells #[.int .i64 (i : Int), .int .i64 os, .bool ox, .int .i64 op, .int .i64 oq, .int .i64 on, .int .i64 ot] 48)).alloc (.cells #[.int .i64 0, .int .i64 0, .slice none 0 0, .slice none 0 0] 58)) (w.heap.size + 3) 58 #[.int .i64 0, .int .i64 0, .slice none 0 0, .slice none 0 0]) := blk_hd (by simp)
  go_enter Try.func53, Try.ntmps53
  go_upto_region 1 with fail
  generalize ((((w.alloc (.cells #[.int .i64 sk, .int .i64 (wn : Int), .int .i64 ra, .int .i64 ta, .slice A1 n1 c1, .slice A2 n2 c2, .slice A3 n3 c3] 39)).alloc (.cells #[.int .i64 sh, .int .i64 ca, .slice A nr c, .slice C no d] 58)).alloc (.cells #[.int .i64 (i : Int), .int .i64 os, .bool ox, .int .i64 op, .int .i64 oq, .int .i64 on, .int .i64 ot] 48)).alloc (.cells #[.int .i64 0, .int .i64 0, .slice none 0 0, .slice none 0 0] 58)) = w0 at b0 K0 K1 K2 K3 ⊢
  obtain ⟨gK, hgK⟩ : ∃ g, g = w.heap.size := ⟨_, rfl⟩
  obtain ⟨gB, hgB⟩ : ∃ g, g = w.heap.size + 1 := ⟨_, rfl⟩
  obtain ⟨gO, hgO⟩ : ∃ g, g = w.heap.size + 2 := ⟨_, rfl⟩
  obtain ⟨gR, hgR⟩ : ∃ g, g = w.heap.size + 3 := ⟨_, rfl⟩
  have hBR : Hid (gR ≠ gB) := by show _ ≠ _; omega
  have hBC : Hid (gK ≠ gB) := by show _ ≠ _; omega
  have hBO : Hid (gO ≠ gB) := by show _ ≠ _; omega
  have hLB : Hid (w.heap.size ≤ gB) := by show _ ≤ _; omega
  have hLR : Hid (w.heap.size ≤ gR) := by show _ ≤ _; omega
  have J0 : Hid (Blk w0 gK 39 #[.int .i64 sk, .int .i64 (wn : Int), .int .i64 ra, .int .i64 ta, .slice A1 n1 c1, .slice A2 n2 c2, .slice A3 n3 c3]) := by rw [hgK]; exact K0.out
  have J1 : Hid (Blk w0 gB 58 #[.int .i64 sh, .int .i64 ca, .slice A nr c, .slice C no d]) := by rw [hgB]; exact K1.out
  have J2 : Hid (Blk w0 gO 48 #[.int .i64 (i : Int), .int .i64 os, .bool ox, .int .i64 op, .int .i64 oq, .int .i64 on, .int .i64 ot]) := by rw [hgO]; exact K2.out
  have J3 : Hid (Blk w0 gR 58 #[.int .i64 0, .int .i64 0, .slice none 0 0, .slice none 0 0]) := by rw [hgR]; exact K3.out
  simp only [← hgR]
  simp only [← hgO]
  simp only [← hgB]
  simp only [← hgK]
  clear hgK hgB hgO hgR K0 K1 K2 K3
  obtain ⟨e0, e1, e2, e3, e4, e5', e6⟩ := q7_of J0.out
  obtain ⟨k0, k1, k2, k3⟩ := q4_of J1.out
  go_upto_region 2 with (go_at_call 79; refine (N _).mono ?_; rintro e w1 ⟨rfl, hb1⟩)
  have HB1 := Lib.hid (below_step b0.out hb1)
  have M0 := Lib.hid (Blk.below' J0.out hb1)
  have M1 := Lib.hid (Blk.below' J1.out hb1)
  have M2 := Lib.hid (Blk.below' J2.out hb1)
  have M3 := Lib.hid (Blk.below' J3.out hb1)
  clear e0 e1 e2 e3 e4 e5' e6 k0 k1 k2 k3 hb1 b0 J0 J1 J2 J3 N
  have HM : Hid (Bm w1 A C rl bk) := hm.out.below HB1.out
  obtain ⟨k0, k1, k2, k3, f0, f1, f2, f3⟩ := z4_of M1.out
  obtain ⟨o0, o1, o2, o3, o4, o5, o6⟩ := q7_of M2.out
  go_upto_region 4 with (go_at_call 74; refine (H _).mono ?_; rintro e w1' ⟨rfl, rfl⟩)
  go_wp2_with fail
  refine (own_any sh ca A C nr no c d rl bk _ hsh hnr hno HM hf).mono ?_
  rintro e w2 ⟨Ar, Ao, cr, co, rl2, he, hbo, hb2⟩
  have hbk : bkA Ar Ao cr co bk = .agg #[.int .i64 sh, .int .i64 ca, .slice Ar nr cr, .slice Ao no co] := by unfold bkA; rw [hnr.out, hno.out, hsh.out.1, hsh.out.2]
  rw [hbk] at he
  subst he
  have HBO := Lib.hid (Bo_mono hbo HB1.out.size)
  have HB2 := Lib.hid (below_step HB1.out hb2)
  have L0 := Lib.hid (Blk.below' M0.out hb2)
  have L1 := Lib.hid (Blk.below' M1.out hb2)
  have L2 := Lib.hid (Blk.below' M2.out hb2)
  have L3 := Lib.hid (Blk.below' M3.out hb2)
  clear k0 k1 k2 k3 f0 f1 f2 f3 o0 o1 o2 o3 o4 o5 o6 hb2 hbk hbo M0 M1 M2 M3 HM HB1 H
  obtain ⟨k0, k1, k2, k3, f0, f1, f2, f3⟩ := z4_of L1.out
  have B3 : Hid (Bo w.heap.size ((((w2.setCell ⟨gB, 0, none⟩ (.int .i64 sh)).setCell ⟨gB, 1, none⟩ (.int .i64 ca)).setCell ⟨gB, 2, none⟩ (.slice Ar nr cr)).setCell ⟨gB, 3, none⟩ (.slice Ao no co)) Ar Ao cr co rl2 bk) := Bo_st4 HBO.out L1.out (by decide) (by decide) (by decide) _ _ _ _
  have P1 : Hid (Blk ((((w2.setCell ⟨gB, 0, none⟩ (.int .i64 sh)).setCell ⟨gB, 1, none⟩ (.int .i64 ca)).setCell ⟨gB, 2, none⟩ (.slice Ar nr cr)).setCell ⟨gB, 3, none⟩ (.slice Ao no co)) gB 58 #[.int .i64 sh, .int .i64 ca, .slice Ar nr cr, .slice Ao no co]) := st4_blk L1.out
  have P0 : Hid (Blk ((((w2.setCell ⟨gB, 0, none⟩ (.int .i64 sh)).setCell ⟨gB, 1, none⟩ (.int .i64 ca)).setCell ⟨gB, 2, none⟩ (.slice Ar nr cr)).setCell ⟨gB, 3, none⟩ (.slice Ao no co)) gK 39 #[.int .i64 sk, .int .i64 (wn : Int), .int .i64 ra, .int .i64 ta, .slice A1 n1 c1, .slice A2 n2 c2, .slice A3 n3 c3]) := st4_far L0.out hBC.out
  have P2 : Hid (Blk ((((w2.setCell ⟨gB, 0, none⟩ (.int .i64 sh)).setCell ⟨gB, 1, none⟩ (.int .i64 ca)).setCell ⟨gB, 2, none⟩ (.slice Ar nr cr)).setCell ⟨gB, 3, none⟩ (.slice Ao no co)) gO 48 #[.int .i64 (i : Int), .int .i64 os, .bool ox, .int .i64 op, .int .i64 oq, .int .i64 on, .int .i64 ot]) := st4_far L2.out hBO.out
  have P3 : Hid (Blk ((((w2.setCell ⟨gB, 0, none⟩ (.int .i64 sh)).setCell ⟨gB, 1, none⟩ (.int .i64 ca)).setCell ⟨gB, 2, none⟩ (.slice Ar nr cr)).setCell ⟨gB, 3, none⟩ (.slice Ao no co)) gR 58 #[.int .i64 0, .int .i64 0, .slice none 0 0, .slice none 0 0]) := st4_far L3.out hBR.out
  have B3b : Hid (Below w.heap.size w ((((w2.setCell ⟨gB, 0, none⟩ (.int .i64 sh)).setCell ⟨gB, 1, none⟩ (.int .i64 ca)).setCell ⟨gB, 2, none⟩ (.slice Ar nr cr)).setCell ⟨gB, 3, none⟩ (.slice Ao no co))) := st4_below HB2.out hLB.out
  go_upto_region 5 with fail
  clear k0 k1 k2 k3 f0 f1 f2 f3 L0 L1 L2 L3 HBO HB2
  generalize ((((w2.setCell ⟨gB, 0, none⟩ (.int .i64 sh)).setCell ⟨gB, 1, none⟩ (.int .i64 ca)).setCell ⟨gB, 2, none⟩ (.slice Ar nr cr)).setCell ⟨gB, 3, none⟩ (.slice Ao no co)) = w3 at B3 P0 P1 P2 P3 B3b ⊢
  obtain ⟨k0, k1, k2, k3, f0, f1, f2, f3⟩ := z4_of P1.out
  have B4 : Hid (Bo w.heap.size (w3.setCell ⟨gB, 1, none⟩ (.int .i64 (ca + 1))) Ar Ao cr co rl2 bk) := Bo_st B3.out P1.out (by decide) (by decide) (by decide) 1 _
  have Q1 : Hid (Blk (w3.setCell ⟨gB, 1, none⟩ (.int .i64 (ca + 1))) gB 58 #[.int .i64 sh, .int .i64 (ca + 1), .slice Ar nr cr, .slice Ao no co]) := blk_st P1.out 1 _
  have Q0 : Hid (Blk (w3.setCell ⟨gB, 1, none⟩ (.int .i64 (ca + 1))) gK 39 #[.int .i64 sk, .int .i64 (wn : Int), .int .i64 ra, .int .i64 ta, .slice A1 n1 c1, .slice A2 n2 c2, .slice A3 n3 c3]) := far_st P0.out hBC.out _
  have Q2 : Hid (Blk (w3.setCell ⟨gB, 1, none⟩ (.int .i64 (ca + 1))) gO 48 #[.int .i64 (i : Int), .int .i64 os, .bool ox, .int .i64 op, .int .i64 oq, .int .i64 on, .int .i64 ot]) := far_st P2.out hBO.out _
  have Q3 : Hid (Blk (w3.setCell ⟨gB, 1, none⟩ (.int .i64 (ca + 1))) gR 58 #[.int .i64 0, .int .i64 0, .slice none 0 0, .slice none 0 0]) := far_st P3.out hBR.out _
  have B4b : Hid (Below w.heap.size w (w3.setCell ⟨gB, 1, none⟩ (.int .i64 (ca + 1)))) := B3b.out.setCell (p := ⟨gB, 1, none⟩) hLB.out _
  go_upto_region 6 with fail
  clear k0 k1 k2 k3 f0 f1 f2 f3 P0 P1 P2 P3 B3 B3b
  generalize (w3.setCell ⟨gB, 1, none⟩ (.int .i64 (ca + 1))) = w4 at B4 Q0 Q1 Q2 Q3 B4b ⊢
  obtain ⟨k0, k1, k2, k3, f0, f1, f2, f3⟩ := z4_of Q1.out
  obtain ⟨o0, o1, o2, o3, o4, o5, o6⟩ := q7_of Q2.out
  obtain ⟨no1, hno1⟩ : ∃ n, n = no + 1 := ⟨_, rfl⟩
  have HNO1 := Lib.hid hno1
  clear hno1
  have V0 : Hid (Below w4.heap.size w4 (w4.alloc (.cells #[.int .i64 idv, .int .i64 (i : Int), .int .i64 os, .bool ox, .int .i64 op, .int .i64 oq, .int .i64 on, .int .i64 ot, .int .i64 oq, .int .i64 1, .int .i64 ep] 128))) := (Below.refl _ _).alloc (Nat.le_refl _) _
  have V1 : Hid (((w4.alloc (.cells #[.int .i64 idv, .int .i64 (i : Int), .int .i64 os, .bool ox, .int .i64 op, .int .i64 oq, .int .i64 on, .int .i64 ot, .int .i64 oq, .int .i64 1, .int .i64 ep] 128))).ownsRow w.heap.size 128 11 (.slice Ao no co) no (ens bk.op)) := own_below (by have := B4.out.o; rw [← hno.out] at this; exact this) V0.out
  have V2 : Hid (Rd (w4.alloc (.cells #[.int .i64 idv, .int .i64 (i : Int), .int .i64 os, .bool ox, .int .i64 op, .int .i64 oq, .int .i64 on, .int .i64 ot, .int .i64 oq, .int .i64 1, .int .i64 ep] 128)) ((w4.alloc (.cells #[.int .i64 idv, .int .i64 (i : Int), .int .i64 os, .bool ox, .int .i64 op, .int .i64 oq, .int .i64 on, .int .i64 ot, .int .i64 oq, .int .i64 1, .int .i64 ep] 128))).heap.size (some ⟨w4.heap.size, 0, none⟩) (enV ⟨idv, ⟨(i : Int), os, ox, op, oq, on, ot⟩, oq, 1, ep⟩)) := rd_new rfl
  have V3 : Hid (w.heap.size ≤ ((w4.alloc (.cells #[.int .i64 idv, .int .i64 (i : Int), .int .i64 os, .bool ox, .int .i64 op, .int .i64 oq, .int .i64 on, .int .i64 ot, .int .i64 oq, .int .i64 1, .int .i64 ep] 128))).heap.size) := Nat.le_trans B4b.out.size V0.out.size
  have V4 : Hid (Blk (w4.alloc (.cells #[.int .i64 idv, .int .i64 (i : Int), .int .i64 os, .bool ox, .int .i64 op, .int .i64 oq, .int .i64 on, .int .i64 ot, .int .i64 oq, .int .i64 1, .int .i64 ep] 128)) gB 58 #[.int .i64 sh, .int .i64 (ca + 1), .slice Ar nr cr, .slice Ao no co]) := Blk.below' Q1.out V0.out
  go_upto_region 7 with (at_builtin; go_loud (refine wpList_appRG (nm := no1) V1 V2 HNO1.out rfl _ _ _ rfl i0 (.agg #[.int .i64 0, .int .i64 0, .int .i64 0, .bool false, .int .i64 0, .int .i64 0, .int .i64 0, .int .i64 0, .int .i64 0, .int .i64 0, .int .i64 0]) 88 Try.underlying56 hi hz0 hz1 hz2 rfl (by decide) rfl rfl (by simp [enV]) (by simp [enV, Value.oneCell']) (by unfold maxLen; omega) (by omega) V3.out ?_); intro A6 c6 w6 hown1 hgr1; have k9 := Blk_grown V4.out hgr1 (blk_own_ne V4.out V1.out (by decide)); obtain ⟨p0, p1, p2, p3, q0, q1, q2, q3⟩ := z4_of k9)
  have hnrp : 0 < nr := by omega
  obtain ⟨gr, hgr⟩ := own_at B4.out.r (by rw [← hnr.out]; exact hnrp)
  subst hgr
  have X7 : Hid (A7 w (w6.setCell ⟨gB, 3, none⟩ (.slice A6 no1 c6)) rl2 gr nr cr no1 A6 c6 bk.rows (bk.op ++ [⟨idv, ⟨(i : Int), os, ox, op, oq, on, ot⟩, oq, 1, ep⟩])) := by
    refine ⟨?_, ?_, B4.out.e, ?_, B4.out.ap, ?_⟩
    · have h := B4.out.r
      rw [← hnr.out] at h
      exact own_st (own_grown (own_below h V0.out) V1.out (by decide) hgr1) k9 (by decide) 3 _
    · rw [ens_snoc]
      exact own_st hown1.out k9 (by decide) 3 _
    · intro k hk
      exact own_st (own_grown (own_below (B4.out.own k hk) V0.out) V1.out (by decide) hgr1) k9 (by decide) 3 _
    · exact (grown_below (below_step B4b.out V0.out) V1.out hgr1 (Nat.le_refl _) V3.out).setCell (p := ⟨gB, 3, none⟩) hLB.out _
  have KB : Hid (Blk (w6.setCell ⟨gB, 3, none⟩ (.slice A6 no1 c6)) gB 58 #[.int .i64 sh, .int .i64 (ca + 1), .slice (some ⟨gr, 0, none⟩) nr cr, .slice A6 no1 c6]) := blk_st k9 3 _
  have KC : Hid (Blk (w6.setCell ⟨gB, 3, none⟩ (.slice A6 no1 c6)) gK 39 #[.int .i64 sk, .int .i64 (wn : Int), .int .i64 ra, .int .i64 ta, .slice A1 n1 c1, .slice A2 n2 c2, .slice A3 n3 c3]) := far_st (Blk_grown (Blk.below' Q0.out V0.out) hgr1 (blk_own_ne (Blk.below' Q0.out V0.out) V1.out (by decide))) hBC.out _
  have KO : Hid (Blk (w6.setCell ⟨gB, 3, none⟩ (.slice A6 no1 c6)) gO 48 #[.int .i64 (i : Int), .int .i64 os, .bool ox, .int .i64 op, .int .i64 oq, .int .i64 on, .int .i64 ot]) := far_st (Blk_grown (Blk.below' Q2.out V0.out) hgr1 (blk_own_ne (Blk.below' Q2.out V0.out) V1.out (by decide))) hBO.out _
  have KR : Hid (Blk (w6.setCell ⟨gB, 3, none⟩ (.slice A6 no1 c6)) gR 58 #[.int .i64 0, .int .i64 0, .slice none 0 0, .slice none 0 0]) := far_st (Blk_grown (Blk.below' Q3.out V0.out) hgr1 (blk_own_ne (Blk.below' Q3.out V0.out) V1.out (by decide))) hBR.out _
  have hil : Hid (i < rl2.length) := by show _ < _; rw [Bo_len B4.out, ← hnr.out]; exact hir
  clear k0 k1 k2 k3 f0 f1 f2 f3 o0 o1 o2 o3 o4 o5 o6 p0 p1 p2 p3 q0 q1 q2 q3 k9 hgr1 hown1 V0 V1 V2 V3 V4 Q0 Q1 Q2 Q3 B4 B4b
  generalize (w6.setCell ⟨gB, 3, none⟩ (.slice A6 no1 c6)) = w7 at X7 KB KC KO KR ⊢
  have HRW := Lib.hid (gC_row X7.out.e hil.out)
  have HL := Lib.hid (hf.out.nl i (by rw [← hnr.out]; exact hir))
  have HC := Lib.hid (hf.out.cnt i (by rw [← hnr.out]; exact hir))
  obtain ⟨_, _, _, _, hroom, hcell⟩ := own_room X7.out.r
  have c0 := hcell (i * 3) _ (by have := rcs_get rl2 i 0 hil.out (by decide); exact this)
  have c1 := hcell (i * 3 + 1) _ (by have := rcs_get rl2 i 1 hil.out (by decide); exact this)
  have c2 := hcell (i * 3 + 2) _ (by have := rcs_get rl2 i 2 hil.out (by decide); exact this)
  have HOW := Lib.hid (X7.out.own i hil.out)
  obtain ⟨R, hR⟩ : ∃ R, R = gC rl2 i := ⟨_, rfl⟩
  rw [← hR] at c0 c1 c2 HRW HOW
  rw [← HRW.out] at HL HC
  have HR := Lib.hid hR
  clear hR hroom hcell
  obtain ⟨An, cn, ns, sec, cnt⟩ := R
  simp only [] at HL HC
  obtain ⟨nn, hnn⟩ : ∃ nn, nn = ns.length := ⟨_, rfl⟩
  have HNN := Lib.hid hnn
  have hnl : nn ≤ 1000 := by rw [hnn]; exact HL.out
  have HOW2 : Hid (w7.drew.ownsRow w.heap.size 2 1 (.slice An nn cn) nn (ints ns)) := by rw [hnn]; exact HOW.out
  have C0 : w7.drew.cell? ⟨gr, i * 3, none⟩ = some (.slice An nn cn) := by rw [hnn]; exact c0
  have C1 : w7.drew.cell? ⟨gr, i * 3 + 1, none⟩ = some (.int .i64 sec) := c1
  have C2 : w7.drew.cell? ⟨gr, i * 3 + 2, none⟩ = some (.int .i64 cnt) := c2
  clear c0 c1 c2 hnn
  have HBS : Hid (w.heap.size ≤ w7.drew.heap.size) := X7.out.b.size
  have US := used_any w.heap.size An nn cn ns sec cnt (i : Int) os op oq on ot ox wn w7.drew HNN HOW2 HBS hnl HC hwn
  obtain ⟨U, hU⟩ : ∃ U, U = usedF ⟨ns, sec, cnt⟩ on ot wn := ⟨_, rfl⟩
  rw [← hU] at US
  have HU := Lib.hid hU
  clear hU
  obtain ⟨uns, us, uc⟩ := U
  have KBd : Hid (Blk w7.drew gB 58 #[.int .i64 sh, .int .i64 (ca + 1), .slice (some ⟨gr, 0, none⟩) nr cr, .slice A6 no1 c6]) := KB.out
  have KCd : Hid (Blk w7.drew gK 39 #[.int .i64 sk, .int .i64 (wn : Int), .int .i64 ra, .int .i64 ta, .slice A1 n1 c1, .slice A2 n2 c2, .slice A3 n3 c3]) := KC.out
  have KOd : Hid (Blk w7.drew gO 48 #[.int .i64 (i : Int), .int .i64 os, .bool ox, .int .i64 op, .int .i64 oq, .int .i64 on, .int .i64 ot]) := KO.out
  have HT : Hid (w7.drew.cell? ⟨gB, 2, none⟩ = some (.slice (some ⟨gr, 0, none⟩) nr cr) ∧ w7.drew.cell? ⟨gO, 0, none⟩ = some (.int .i64 (i : Int)) ∧ w7.drew.cell? ⟨gO, 1, none⟩ = some (.int .i64 os) ∧ w7.drew.cell? ⟨gO, 2, none⟩ = some (.bool ox) ∧ w7.drew.cell? ⟨gO, 3, none⟩ = some (.int .i64 op) ∧ w7.drew.cell? ⟨gO, 4, none⟩ = some (.int .i64 oq) ∧ w7.drew.cell? ⟨gO, 5, none⟩ = some (.int .i64 on) ∧ w7.drew.cell? ⟨gO, 6, none⟩ = some (.int .i64 ot) ∧ w7.drew.cell? ⟨gK, 1, none⟩ = some (.int .i64 (wn : Int)) ∧ w7.drew.cell? ⟨gr, i * 3, none⟩ = some (.slice An nn cn) ∧ w7.drew.cell? ⟨gr, i * 3 + 1, none⟩ = some (.int .i64 sec) ∧ w7.drew.cell? ⟨gr, i * 3 + 2, none⟩ = some (.int .i64 cnt)) := ⟨KBd.out.cell 2, KOd.out.cell 0, KOd.out.cell 1, KOd.out.cell 2, KOd.out.cell 3, KOd.out.cell 4, KOd.out.cell 5, KOd.out.cell 6, KCd.out.cell 1, C0, C1, C2⟩
  clear C0 C1 C2
  refine wp_region_noPanic ?_
  refine wp_region_L (T := (fun w' => w'.cell? ⟨gB, 2, none⟩ = some (.slice (some ⟨gr, 0, none⟩) nr cr) ∧ w'.cell? ⟨gO, 0, none⟩ = some (.int .i64 (i : Int)) ∧ w'.cell? ⟨gO, 1, none⟩ = some (.int .i64 os) ∧ w'.cell? ⟨gO, 2, none⟩ = some (.bool ox) ∧ w'.cell? ⟨gO, 3, none⟩ = some (.int .i64 op) ∧ w'.cell? ⟨gO, 4, none⟩ = some (.int .i64 oq) ∧ w'.cell? ⟨gO, 5, none⟩ = some (.int .i64 on) ∧ w'.cell? ⟨gO, 6, none⟩ = some (.int .i64 ot) ∧ w'.cell? ⟨gK, 1, none⟩ = some (.int .i64 (wn : Int)) ∧ w'.cell? ⟨gr, i * 3, none⟩ = some (.slice An nn cn) ∧ w'.cell? ⟨gr, i * 3 + 1, none⟩ = some (.int .i64 sec) ∧ w'.cell? ⟨gr, i * 3 + 2, none⟩ = some (.int .i64 cnt))) (st := [15]) (by kernel_rfl) ?_
  refine wpL_word (i := 0) (v := ?_) rfl (by kernel_rfl) (fun _ _ _ h => h) (by kernel_rfl) _ _ _ _ (by kernel_rfl) (by kernel_rfl) (Or.inl ⟨by rfl, ?_⟩) (fun _ => HT.out) ?_
  rotate_left
  · intro w' _
    go_simp
    try with_reducible rfl
  (try simp only [Act.put, List.getElem_toArray, List.getElem_cons_succ, List.getElem_cons_zero, List.setIfInBounds_toArray, List.set_cons_zero, List.set_cons_succ])
  refine wpL_load (i := 1) (v := ?_) rfl (by kernel_rfl) (fun _ _ _ h => h) (by kernel_rfl) (by kernel_rfl) _ _ _ _ (by kernel_rfl) (by kernel_rfl) (Or.inl ⟨by rfl, ?_⟩) (by kernel_rfl) HT.out ?_
  rotate_left
  · intro w' hS
    (try dsimp only at hS)
    obtain ⟨x1, x2, x3, x4, x5, x6, x7, x8, x9, x10, x11, x12⟩ := hS
    go_simp
    try with_reducible rfl
  (try simp only [Act.put, List.getElem_toArray, List.getElem_cons_succ, List.getElem_cons_zero, List.setIfInBounds_toArray, List.set_cons_zero, List.set_cons_succ])
  refine wpL_word (i := 2) (v := ?_) rfl (by kernel_rfl) (fun _ _ _ h => h) (by kernel_rfl) _ _ _ _ (by kernel_rfl) (by kernel_rfl) (Or.inl ⟨by rfl, ?_⟩) (fun _ => HT.out) ?_
  rotate_left
  · intro w' _
    go_simp
    try with_reducible rfl
  (try simp only [Act.put, List.getElem_toArray, List.getElem_cons_succ, List.getElem_cons_zero, List.setIfInBounds_toArray, List.set_cons_zero, List.set_cons_succ])
  refine wpL_load (i := 3) (v := ?_) rfl (by kernel_rfl) (fun _ _ _ h => h) (by kernel_rfl) (by kernel_rfl) _ _ _ _ (by kernel_rfl) (by kernel_rfl) (Or.inl ⟨by rfl, ?_⟩) (by kernel_rfl) HT.out ?_
  rotate_left
  · intro w' hS
    (try dsimp only at hS)
    obtain ⟨x1, x2, x3, x4, x5, x6, x7, x8, x9, x10, x11, x12⟩ := hS
    go_simp
    try with_reducible rfl
  (try simp only [Act.put, List.getElem_toArray, List.getElem_cons_succ, List.getElem_cons_zero, List.setIfInBounds_toArray, List.set_cons_zero, List.set_cons_succ])
  refine wpL_word (i := 4) (v := ?_) rfl (by kernel_rfl) (fun _ _ _ h => h) (by kernel_rfl) _ _ _ _ (by kernel_rfl) (by kernel_rfl) (Or.inl ⟨by rfl, ?_⟩) (fun _ => HT.out) ?_
  rotate_left
  · intro w' _
    go_simp
    try with_reducible rfl
  (try simp only [Act.put, List.getElem_toArray, List.getElem_cons_succ, List.getElem_cons_zero, List.setIfInBounds_toArray, List.set_cons_zero, List.set_cons_succ])
  refine wpL_load (i := 5) (v := ?_) rfl (by kernel_rfl) (fun _ _ _ h => h) (by kernel_rfl) (by kernel_rfl) _ _ _ _ (by kernel_rfl) (by kernel_rfl) (Or.inl ⟨by rfl, ?_⟩) (by kernel_rfl) HT.out ?_
  rotate_left
  · intro w' hS
    (try dsimp only at hS)
    obtain ⟨x1, x2, x3, x4, x5, x6, x7, x8, x9, x10, x11, x12⟩ := hS
    go_simp
    try with_reducible rfl
  (try simp only [Act.put, List.getElem_toArray, List.getElem_cons_succ, List.getElem_cons_zero, List.setIfInBounds_toArray, List.set_cons_zero, List.set_cons_succ])
  refine wpL_word (i := 6) (v := ?_) rfl (by kernel_rfl) (fun _ _ _ h => h) (by kernel_rfl) _ _ _ _ (by kernel_rfl) (by kernel_rfl) (Or.inl ⟨by rfl, ?_⟩) (fun _ => HT.out) ?_
  rotate_left
  · intro w' _
    go_simp
    try with_reducible rfl
  (try simp only [Act.put, List.getElem_toArray, List.getElem_cons_succ, List.getElem_cons_zero, List.setIfInBounds_toArray, List.set_cons_zero, List.set_cons_succ])
  refine wpL_load (i := 7) (v := ?_) rfl (by kernel_rfl) (fun _ _ _ h => h) (by kernel_rfl) (by kernel_rfl) _ _ _ _ (by kernel_rfl) (by kernel_rfl) (Or.inl ⟨by rfl, ?_⟩) (by kernel_rfl) HT.out ?_
  rotate_left
  · intro w' hS
    (try dsimp only at hS)
    obtain ⟨x1, x2, x3, x4, x5, x6, x7, x8, x9, x10, x11, x12⟩ := hS
    go_simp
    try with_reducible rfl
  (try simp only [Act.put, List.getElem_toArray, List.getElem_cons_succ, List.getElem_cons_zero, List.setIfInBounds_toArray, List.set_cons_zero, List.set_cons_succ])
  refine wpL_word (i := 8) (v := ?_) rfl (by kernel_rfl) (fun _ _ _ h => h) (by kernel_rfl) _ _ _ _ (by kernel_rfl) (by kernel_rfl) (Or.inl ⟨by rfl, ?_⟩) (fun _ => HT.out) ?_
  rotate_left
  · intro w' _
    go_simp
    try with_reducible rfl
  (try simp only [Act.put, List.getElem_toArray, List.getElem_cons_succ, List.getElem_cons_zero, List.setIfInBounds_toArray, List.set_cons_zero, List.set_cons_succ])
  refine wpL_load (i := 9) (v := ?_) rfl (by kernel_rfl) (fun _ _ _ h => h) (by kernel_rfl) (by kernel_rfl) _ _ _ _ (by kernel_rfl) (by kernel_rfl) (Or.inl ⟨by rfl, ?_⟩) (by kernel_rfl) HT.out ?_
  rotate_left
  · intro w' hS
    (try dsimp only at hS)
    obtain ⟨x1, x2, x3, x4, x5, x6, x7, x8, x9, x10, x11, x12⟩ := hS
    go_simp
    try with_reducible rfl
  (try simp only [Act.put, List.getElem_toArray, List.getElem_cons_succ, List.getElem_cons_zero, List.setIfInBounds_toArray, List.set_cons_zero, List.set_cons_succ])
  refine wpL_load (i := 10) (v := ?_) rfl (by kernel_rfl) (fun _ _ _ h => h) (by kernel_rfl) (by kernel_rfl) _ _ _ _ (by kernel_rfl) (by kernel_rfl) (Or.inl ⟨by rfl, ?_⟩) (by kernel_rfl) HT.out ?_
  rotate_left
  · intro w' hS
    (try dsimp only at hS)
    obtain ⟨x1, x2, x3, x4, x5, x6, x7, x8, x9, x10, x11, x12⟩ := hS
    go_simp
    try with_reducible rfl
  (try simp only [Act.put, List.getElem_toArray, List.getElem_cons_succ, List.getElem_cons_zero, List.setIfInBounds_toArray, List.set_cons_zero, List.set_cons_succ])
  refine wpL_word (i := 11) (v := ?_) rfl (by kernel_rfl) (fun _ _ _ h => h) (by kernel_rfl) _ _ _ _ (by kernel_rfl) (by kernel_rfl) (Or.inl ⟨by rfl, ?_⟩) (fun _ => HT.out) ?_
  rotate_left
  · intro w' _
    go_simp
    try with_reducible rfl
  (try simp only [Act.put, List.getElem_toArray, List.getElem_cons_succ, List.getElem_cons_zero, List.setIfInBounds_toArray, List.set_cons_zero, List.set_cons_succ])
  refine wpL_load (i := 12) (v := ?_) rfl (by kernel_rfl) (fun _ _ _ h => h) (by kernel_rfl) (by kernel_rfl) _ _ _ _ (by kernel_rfl) (by kernel_rfl) (Or.inl ⟨by rfl, ?_⟩) (by kernel_rfl) HT.out ?_
  rotate_left
  · intro w' hS
    (try dsimp only at hS)
    obtain ⟨x1, x2, x3, x4, x5, x6, x7, x8, x9, x10, x11, x12⟩ := hS
    go_simp
    try with_reducible rfl
  (try simp only [Act.put, List.getElem_toArray, List.getElem_cons_succ, List.getElem_cons_zero, List.setIfInBounds_toArray, List.set_cons_zero, List.set_cons_succ])
  refine wpL_next (n := 13) (by kernel_rfl) rfl (fun K' hK => ?_)
  go_simp
  refine US.mono ?_
  rintro e w8 ⟨A8, c8, he, hri8, hf8, hp8, hg8⟩
  dsimp only at he
  subst he
  have hnB := own_ne_A (w8 := w8) HOW2.out X7.out.r (by decide) hg8
  have hgA : w7.drew.grownBy w8 (Value.slice An nn cn).ownBlock := by rw [ownBlock_len]; exact hg8
  have KB8 := Lib.hid (Blk_grown KBd.out hgA (blk_own_ne KBd.out HOW2.out (by decide)))
  have KC8 := Lib.hid (Blk_grown KCd.out hgA (blk_own_ne KCd.out HOW2.out (by decide)))
  have KO8 := Lib.hid (Blk_grown KOd.out hgA (blk_own_ne KOd.out HOW2.out (by decide)))
  have KR8 := Lib.hid (Blk_grown (show Blk w7.drew gR 58 #[.int .i64 0, .int .i64 0, .slice none 0 0, .slice none 0 0] from KR.out) hgA (blk_own_ne (show Blk w7.drew gR 58 #[.int .i64 0, .int .i64 0, .slice none 0 0, .slice none 0 0] from KR.out) HOW2.out (by decide)))
  have hBr : Hid (gB ≠ gr) := fun e => blk_own_ne KB8.out hnB (by decide) (by rw [e]; rfl)
  have hRr : Hid (gR ≠ gr) := fun e => blk_own_ne KR8.out hnB (by decide) (by rw [e]; rfl)
  obtain ⟨_, _, _, _, hroom, hcell⟩ := own_room hnB
  have d0 := hcell (i * 3) _ (by have := rcs_get rl2 i 0 hil.out (by decide); rw [← HR.out] at this; exact this)
  have d1 := hcell (i * 3 + 1) _ (by have := rcs_get rl2 i 1 hil.out (by decide); rw [← HR.out] at this; exact this)
  have d2 := hcell (i * 3 + 2) _ (by have := rcs_get rl2 i 2 hil.out (by decide); rw [← HR.out] at this; exact this)
  have hnc := (own_room hnB).2.2.1
  have g0 := (hroom (i * 3) (by omega)).2
  have g1 := (hroom (i * 3 + 1) (by omega)).2
  have g2 := (hroom (i * 3 + 2) (by omega)).2
  have HT2 : Hid (w8.cell? ⟨gB, 2, none⟩ = some (.slice (some ⟨gr, 0, none⟩) nr cr) ∧ w8.cell? ⟨gO, 0, none⟩ = some (.int .i64 (i : Int)) ∧ w8.cell? ⟨gO, 1, none⟩ = some (.int .i64 os) ∧ w8.cell? ⟨gO, 2, none⟩ = some (.bool ox) ∧ w8.cell? ⟨gO, 3, none⟩ = some (.int .i64 op) ∧ w8.cell? ⟨gO, 4, none⟩ = some (.int .i64 oq) ∧ w8.cell? ⟨gO, 5, none⟩ = some (.int .i64 on) ∧ w8.cell? ⟨gO, 6, none⟩ = some (.int .i64 ot) ∧ w8.cell? ⟨gK, 1, none⟩ = some (.int .i64 (wn : Int)) ∧ w8.cell? ⟨gr, i * 3, none⟩ = some (.slice An nn cn) ∧ w8.cell? ⟨gr, i * 3 + 1, none⟩ = some (.int .i64 sec) ∧ w8.cell? ⟨gr, i * 3 + 2, none⟩ = some (.int .i64 cnt)) := ⟨KB8.out.cell 2, KO8.out.cell 0, KO8.out.cell 1, KO8.out.cell 2, KO8.out.cell 3, KO8.out.cell 4, KO8.out.cell 5, KO8.out.cell 6, KC8.out.cell 1, (by rw [HNN.out]; exact d0), d1, d2⟩
  have X9 := Lib.hid (A7.used (w8 := w8) (show A7 w w7.drew rl2 gr nr cr no1 A6 c6 bk.rows (bk.op ++ [⟨idv, ⟨(i : Int), os, ox, op, oq, on, ot⟩, oq, 1, ep⟩]) from ⟨X7.out.r, X7.out.o, X7.out.e, X7.out.own, X7.out.ap, X7.out.b.drew⟩) hil.out (show Blk w7.drew gR 58 #[.int .i64 0, .int .i64 0, .slice none 0 0, .slice none 0 0] from KR.out) (by rw [← HR.out]; exact hg8) hri8 hf8 (by rw [← HR.out]; exact hp8) c8 us uc)
  clear hnB hgA hroom hcell hri8 hf8 hp8 hg8 KBd KCd KOd KC8 KO8
  go_wp2_with fail
  refine hK.out _ _ HT2.out ?_
  clear hK K'
  (try simp only [Act.put, List.getElem_toArray, List.getElem_cons_succ, List.getElem_cons_zero, List.setIfInBounds_toArray, List.set_cons_zero, List.set_cons_succ])
  refine wpL_word (i := 14) (v := ?_) rfl (by kernel_rfl) (fun _ _ _ h => h) (by kernel_rfl) _ _ _ _ (by kernel_rfl) (by kernel_rfl) (Or.inl ⟨by rfl, ?_⟩) (fun _ => HT2.out) ?_
  rotate_left
  · intro w' _
    go_simp
    try with_reducible rfl
  (try simp only [Act.put, List.getElem_toArray, List.getElem_cons_succ, List.getElem_cons_zero, List.setIfInBounds_toArray, List.set_cons_zero, List.set_cons_succ])
  have D0 : (w8.setCell ⟨gr, i * 3, none⟩ (.slice A8 uns.length c8)).cell? ⟨gr, i * 3 + 1, none⟩ = some (.int .i64 sec) := (World.cell?_setCell_other _ _ _ _ (by intro e; injection e with e1 e2; omega)).trans d1
  have D1 : ((w8.setCell ⟨gr, i * 3, none⟩ (.slice A8 uns.length c8)).setCell ⟨gr, i * 3 + 1, none⟩ (.int .i64 us)).cell? ⟨gr, i * 3 + 2, none⟩ = some (.int .i64 cnt) := (World.cell?_setCell_other _ _ _ _ (by intro e; injection e with e1 e2; omega)).trans ((World.cell?_setCell_other _ _ _ _ (by intro e; injection e with e1 e2; omega)).trans d2)
  have G0 : (w8.setCell ⟨gr, i * 3, none⟩ (.slice A8 uns.length c8)).frozen? ⟨gr, i * 3 + 1, none⟩ = false := by rw [World.frozen?_setCell]; exact g1
  have G1 : ((w8.setCell ⟨gr, i * 3, none⟩ (.slice A8 uns.length c8)).setCell ⟨gr, i * 3 + 1, none⟩ (.int .i64 us)).frozen? ⟨gr, i * 3 + 2, none⟩ = false := by rw [World.frozen?_setCell, World.frozen?_setCell]; exact g2
  refine wpL_late (n := 15) (by kernel_rfl) rfl (by kernel_rfl) (fun K' hK => ?_)
  go_simp
  refine hK.out _ _ ?_
  clear hK K'
  (try simp only [Act.put, List.getElem_toArray, List.getElem_cons_succ, List.getElem_cons_zero, List.setIfInBounds_toArray, List.set_cons_zero, List.set_cons_succ])
  refine wpL_done (by kernel_rfl) ?_ _
  refine NoPanic.normal ?_
  have KB9 : Hid (Blk (((w8.setCell ⟨gr, i * 3, none⟩ (.slice A8 uns.length c8)).setCell ⟨gr, i * 3 + 1, none⟩ (.int .i64 us)).setCell ⟨gr, i * 3 + 2, none⟩ (.int .i64 uc)) gB 58 #[.int .i64 sh, .int .i64 (ca + 1), .slice (some ⟨gr, 0, none⟩) nr cr, .slice A6 no1 c6]) := far_st (far_st (far_st KB8.out hBr.out _) hBr.out _) hBr.out _
  have KR9 : Hid (Blk (((w8.setCell ⟨gr, i * 3, none⟩ (.slice A8 uns.length c8)).setCell ⟨gr, i * 3 + 1, none⟩ (.int .i64 us)).setCell ⟨gr, i * 3 + 2, none⟩ (.int .i64 uc)) gR 58 #[.int .i64 0, .int .i64 0, .slice none 0 0, .slice none 0 0]) := far_st (far_st (far_st KR8.out hRr.out _) hRr.out _) hRr.out _
  clear D0 D1 G0 G1 d0 d1 d2 g0 g1 g2 HT HT2 KB8 KR8 X7 KB KC KO KR
  generalize (((w8.setCell ⟨gr, i * 3, none⟩ (.slice A8 uns.length c8)).setCell ⟨gr, i * 3 + 1, none⟩ (.int .i64 us)).setCell ⟨gr, i * 3 + 2, none⟩ (.int .i64 uc)) = w9 at X9 KB9 KR9 ⊢
  have F3 : Blk (st4 w9 gR (.int .i64 sh) (.int .i64 (ca + 1)) (.slice (some ⟨gr, 0, none⟩) nr cr) (.slice A6 no1 c6)) gR 58 #[.int .i64 sh, .int .i64 (ca + 1), .slice (some ⟨gr, 0, none⟩) nr cr, .slice A6 no1 c6] := st4_blk KR9.out
  have hfin : MadeB2 (addF sk wn bk ⟨(i : Int), os, ox, op, oq, on, ot⟩ ep) (bk.sh + sk * bk.ca) w (.returned (.tuple #[.agg #[.int .i64 sh, .int .i64 (ca + 1), .slice (some ⟨gr, 0, none⟩) nr cr, .slice A6 no1 c6], .int .i64 idv])) (st4 w9 gR (.int .i64 sh) (.int .i64 (ca + 1)) (.slice (some ⟨gr, 0, none⟩) nr cr) (.slice A6 no1 c6)) := by
    obtain ⟨y1, y2, y3⟩ := A9.fin X9.out KR9.out hLR.out (.int .i64 sh) (.int .i64 (ca + 1)) (.slice (some ⟨gr, 0, none⟩) nr cr) (.slice A6 no1 c6) sh (ca + 1)
    have hADD : addF sk wn bk ⟨(i : Int), os, ox, op, oq, on, ot⟩ ep = ⟨sh, ca + 1, bk.rows.set i ⟨uns, us, uc⟩, bk.op ++ [⟨idv, ⟨(i : Int), os, ox, op, oq, on, ot⟩, oq, 1, ep⟩]⟩ := by
      unfold addF
      have h1 : Bkp.gR bk.rows i = ⟨ns, sec, cnt⟩ := HRW.out.symm
      simp only [Int.toNat_natCast, h1]
      rw [← HU.out, HID.out, hsh.out.1, hsh.out.2]
    rw [hADD]
    refine ⟨some ⟨gr, 0, none⟩, A6, cr, c6, _, ?_, y1, y2, y3⟩
    rw [HID.out, hsh.out.1, hsh.out.2]
    unfold bkA
    simp [HNO1.out, hno.out, hnr.out]
  have HF := Lib.hid hfin
  clear hfin X9
  obtain ⟨k0, k1, k2, k3⟩ := q4_of KB9.out
  obtain ⟨z0, z1, z2, z3, f0, f1, f2, f3⟩ := z4_of KR9.out
  go_wp2_with fail
  obtain ⟨d0, d1, d2, d3⟩ := q4_of F3
  clear F3
  unfold st4 at d0 d1 d2 d3 HF
  exact bodyPost_ret (v := .tuple #[.agg #[.int .i64 sh, .int .i64 (ca + 1), .slice (some ⟨gr, 0, none⟩) nr cr, .slice A6 no1 c6], .int .i64 idv]) (by simp [results, Try.results53, go_sem, d0, d1, d2, d3]) rfl HF.out
end Go.Proofs.Ytkmkaidhpbjbnaa.Bka
