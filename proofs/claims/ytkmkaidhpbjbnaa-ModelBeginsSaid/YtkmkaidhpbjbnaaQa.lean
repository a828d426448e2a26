/- Texts side by side: each has its own first line. -/
import Derived.Below
import Derived.Carry
import Derived.OwnWalk
import Derived.Laws.OwnMore
import Derived.Laws.MakeOwn
import Derived.Deep.Slices
import Derived.Deep.SlicePairs
import Derived.Deep.Draws
import Derived.ChangeSame
import Derived.ProofKit
import Derived.Lib.Hide
import Derived.WalkKit
import Derived.OpenShut
import Derived.Outline
import Derived.LoopTactic
import Derived.Deep.LoopGhost
import Derived.BigQuiet
import Derived.Deep.QuietTactic
import Derived.RegionTactic
import Derived.Deep.RegionLaw
import Derived.Lib.SliceRun
import Derived.ArgAppend
import Derived.Deep.Upon
import Derived.WalkSpells
import Derived.Deep.RegionWith
import Derived.Lib.LazyBuf
import Derived.Deep.MidRow
import Derived.Deep.RegionHeld3
import Derived.Test.YtkmkaidhpbjbnaaRows
namespace Go.Proofs.Ytkmkaidhpbjbnaa.Lim
end Go.Proofs.Ytkmkaidhpbjbnaa.Lim
namespace Go.Proofs.Ytkmkaidhpbjbnaa.Sm4
end Go.Proofs.Ytkmkaidhpbjbnaa.Sm4
namespace Go.Proofs.Ytkmkaidhpbjbnaa.To4
end Go.Proofs.Ytkmkaidhpbjbnaa.To4
namespace Go.Proofs.Ytkmkaidhpbjbnaa.Mdw
end Go.Proofs.Ytkmkaidhpbjbnaa.Mdw
/- Words for memory, over any program: a slice that reads as a list, rows of the call's own, the last step of a law that only makes memory. No condition. -/
namespace Go.Proofs.Ytkmkaidhpbjbnaa.Mem
set_option maxRecDepth 100000
open Go.ChangeShapes Go.WideShapes Go.RowKit

/-- the slice at A reads as the cells xs, and lies below block B -/
def Rd (w : World) (B : Nat) (A : Option Addr) (xs : List Value) : Prop :=
  xs = [] ∨ ∃ b o, A = some ⟨b, o, none⟩ ∧ b < B ∧ ∀ i v, xs[i]? = some v → w.cell? ⟨b, o + i, none⟩ = some v

section
variable {w w' : World} {B B' : Nat} {A : Option Addr} {xs ys : List Value}
theorem Rd.nil : Rd w B A [] := .inl rfl
theorem Rd.at (h : Rd w B A xs) (hx : xs ≠ []) : ∃ b o, A = some ⟨b, o, none⟩ ∧ b < B ∧ ∀ i v, xs[i]? = some v → w.cell? ⟨b, o + i, none⟩ = some v :=
  h.resolve_left hx
theorem Rd.keep (h : Rd w B A xs) (hk : ∀ p : Addr, p.block < B → w'.cell? p = w.cell? p) : Rd w' B A xs := by
  rcases h with h | ⟨b, o, hA, hb, hc⟩
  · exact .inl h
  · exact .inr ⟨b, o, hA, hb, fun i v hi => (hk _ hb).trans (hc i v hi)⟩
theorem Rd.keep' (h : Rd w B A xs) {g : Nat} (_hg : g < g + 1) (hne : ∀ a, A = some a → a.block ≠ g) {j : Nat} (u : Value) : Rd (w.setCell ⟨g, j, none⟩ u) (w.setCell ⟨g, j, none⟩ u).heap.size A xs := by
  rcases h with h | ⟨b, o, hA, hb, hc⟩
  · exact .inl h
  · have hb' := hne _ hA
    by_cases hx : xs = []
    · exact .inl hx
    · have h0 : 0 < xs.length := by cases xs with | nil => exact absurd rfl hx | cons a l => simp
      have hl := World.block_lt_of_cell? w _ (hc 0 _ (List.getElem?_eq_getElem h0))
      refine .inr ⟨b, o, hA, by simpa [World.setCell] using hl, fun i v hi => ?_⟩
      have e : (w.setCell ⟨g, j, none⟩ u).heap[b]? = w.heap[b]? := Below.heap_setCell w _ u b hb'
      exact (World.cell?_of_block (w := w) (a := ⟨b, o + i, none⟩) e).trans (hc i v hi)
theorem Rd.more (h : Rd w B A xs) (hB : B ≤ B') : Rd w B' A xs := by
  rcases h with h | ⟨b, o, hA, hb, hc⟩
  · exact .inl h
  · exact .inr ⟨b, o, hA, by omega, hc⟩
theorem Rd.below (h : Rd w B A xs) (hb : Below B w w') : Rd w' B A xs := h.keep fun _ hp => hb.cell hp
theorem Rd.below' (h : Rd w B A xs) (hb : Below B w w') (hB : B ≤ B') : Rd w' B' A xs := (h.below hb).more hB
theorem Rd.of_own {base : Nat} {e : TypeId} {size n c : Nat} (h : w.ownsRow base e size (.slice A n c) n xs) : Rd w w.heap.size A xs := by
  rcases h.2 with ⟨hv, hn⟩ | ⟨g, cap, cur, hv, hg, hh, h1, h2, h3, h4⟩
  · have := h.1
    rw [hn, Nat.zero_mul] at this
    exact .inl (List.eq_nil_of_length_eq_zero this)
  · injection hv with hA
    subst hA
    refine .inr ⟨g, 0, rfl, (Array.getElem?_eq_some_iff.1 hh).1, fun i v hi => ?_⟩
    have := World.ownsRow.cells h (g := g) rfl i v hi
    rwa [show (⟨g, 0, none⟩ : Addr).add i = ⟨g, 0 + i, none⟩ by unfold Addr.add; split <;> simp_all] at this
/-- what a row of the call's own is called -/
theorem own_form {base : Nat} {e : TypeId} {size n : Nat} {v : Value} (h : w.ownsRow base e size v n xs) : ∃ A c, v = .slice A n c ∧ Rd w w.heap.size A xs := by
  have hv : ∃ A c, v = .slice A n c := by
    rcases h.2 with ⟨rfl, rfl⟩ | ⟨g, cap, cur, rfl, _⟩
    · exact ⟨_, _, rfl⟩
    · exact ⟨_, _, rfl⟩
  obtain ⟨A, c, rfl⟩ := hv
  exact ⟨A, c, rfl, Rd.of_own h⟩
theorem Below.drewN' {a b : World} (h : Below B a b) (n : Nat) : Below B a (b.drewN n) := ⟨h.os, h.tape, h.output, h.size, h.block⟩
theorem Rd.drewN (h : Rd w B A xs) (n : Nat) : Rd (w.drewN n) B A xs := h
theorem Rd.drew (h : Rd w B A xs) : Rd w.drew B A xs := h
theorem Rd.alloc (h : Rd w B A xs) (hB : B ≤ w.heap.size) (o : Obj) : Rd (w.alloc o) B A xs := h.below ((Below.refl _ _).alloc hB o)
end

/-! ### lists of numbers -/
def ints (xs : List Int) : List Value := xs.map (.int .i64)
def gI (xs : List Int) (i : Nat) : Int := xs.getD i 0
def Ris (w : World) (B : Nat) (A : Option Addr) (xs : List Int) : Prop := Rd w B A (ints xs)
theorem ints_len (xs : List Int) : (ints xs).length = xs.length := by simp [ints]
theorem ints_snoc (xs : List Int) (x : Int) : ints (xs ++ [x]) = ints xs ++ [.int .i64 x] := by simp [ints]
theorem Ris.at {w : World} {B : Nat} {A : Option Addr} {xs : List Int} {i : Nat} (h : Ris w B A xs) (hi : i < xs.length) :
    ∃ b o, A = some ⟨b, o, none⟩ ∧ b < B ∧ ∀ j, j < xs.length → w.cell? ⟨b, o + j, none⟩ = some (.int .i64 (gI xs j)) := by
  obtain ⟨b, o, hA, hb, hc⟩ := Rd.at h (by intro e; have := ints_len xs; rw [e] at this; simp at this; omega)
  refine ⟨b, o, hA, hb, fun j hj => hc j _ ?_⟩
  simp [ints, gI, hj]

/-! ### lists of pairs -/
def nP (l : List (Int × Int)) (i : Nat) : Int := (l.getD i (0, 0)).1
def nC (l : List (Int × Int)) (i : Nat) : Int := (l.getD i (0, 0)).2
def ndV (p : Int × Int) : List Value := [.int .i64 p.1, .int .i64 p.2]
def nds (l : List (Int × Int)) : List Value := l.flatMap ndV
def Nds (w : World) (B : Nat) (A : Option Addr) (l : List (Int × Int)) : Prop := Rd w B A (nds l)
theorem nds_len (l : List (Int × Int)) : (nds l).length = l.length * 2 := by
  induction l with
  | nil => rfl
  | cons p l ih => simp [nds, ndV] at ih ⊢; omega
theorem nds_snoc (l : List (Int × Int)) (p : Int × Int) : nds (l ++ [p]) = nds l ++ [.int .i64 p.1, .int .i64 p.2] := by simp [nds, ndV]
theorem nds_get (l : List (Int × Int)) (i : Nat) (hi : i < l.length) : (nds l)[i * 2]? = some (.int .i64 (nP l i)) ∧ (nds l)[i * 2 + 1]? = some (.int .i64 (nC l i)) := by
  induction l generalizing i with
  | nil => simp at hi
  | cons p l ih =>
    cases i with
    | zero => simp [nds, ndV, nP, nC]
    | succ i =>
      have := ih i (by simpa using hi)
      have e1 : (i + 1) * 2 = i * 2 + 1 + 1 := by omega
      rw [e1]
      simpa [nds, ndV, nP, nC] using this
theorem Nds.at {w : World} {B : Nat} {A : Option Addr} {l : List (Int × Int)} (h : Nds w B A l) (hi : 0 < l.length) :
    ∃ b o, A = some ⟨b, o, none⟩ ∧ b < B ∧ ∀ j, j < l.length → w.cell? ⟨b, o + j * 2, none⟩ = some (.int .i64 (nP l j)) ∧ w.cell? ⟨b, o + j * 2 + 1, none⟩ = some (.int .i64 (nC l j)) := by
  obtain ⟨b, o, hA, hb, hc⟩ := Rd.at h (by intro e; have := nds_len l; rw [e] at this; simp at this; omega)
  refine ⟨b, o, hA, hb, fun j hj => ?_⟩
  have := nds_get l j hj
  exact ⟨hc _ _ this.1, by have := hc _ _ this.2; rwa [Nat.add_assoc]⟩
def inI (x : Int) : Prop := -9223372036854775808 ≤ x ∧ x ≤ 9223372036854775807
def WfN (l : List (Int × Int)) : Prop := ∀ i, i < l.length → inI (nP l i) ∧ inI (nC l i)
def WfI (xs : List Int) : Prop := ∀ i, i < xs.length → inI (gI xs i)
theorem wf_in {a : Int} (h : (Lit.int .i64 a).wf = true) : inI a := by
  simp [Lit.wf] at h
  exact ⟨h.1, h.2⟩

/-! ### append of one element that was just laid -/
theorem one_cells {w : World} {cs : Array Value} {te : TypeId} {news : List Value} (hn : cs.toList = news) :
    ∀ j u, news[j]? = some u → (w.alloc (.cells cs te)).cell? ((⟨w.heap.size, 0, none⟩ : Addr).add j) = some u := by
  intro j u hj
  subst hn
  have e : (⟨w.heap.size, 0, none⟩ : Addr).add j = ⟨w.heap.size, j, none⟩ := by unfold Addr.add; split <;> simp_all
  rw [e, cell_of_row (w.alloc (.cells cs te)) w.heap.size j cs te (0, 0) (heap_alloc_new w _)]
  simpa using hj
theorem wpList_app1 {P : Program} {w w0 : World} {ops : Array Oper} {rest : List Oper} {o : Oper} {a : Act} {Q : Exit → Act → World → Prop} {B : Nat} {base : Nat} {e te : TypeId} {size n : Nat} {v : Value} {xs : List Value} {cs : Array Value}
    (hown : Hid (w.ownsRow base e size v n xs)) (hbel : Below B w0 w) (hgd : o.guard = none) (s x : Operand) (t : TypeId)
    (ho : o.op = .call { callee := .builtin .append, args := #[s, x], argTypes := #[t, t] })
    (i : TypeInfo) (z : Value) (bytes : Nat) (ht : P.underlying t = some (.slice e)) (hi : P.info? e = some i) (hz : i.zero = some z)
    (hsize : i.size = size) (hby : i.bytes = bytes) (hzs : z.cells.size = size) (hsz : 0 < size)
    (hs : a.eval s = v) {gb : Nat} (hx : a.eval x = .slice (some ⟨gb, 0, none⟩) 1 1) (hgb : gb = w.heap.size) (news : List Value) (hn : cs.toList = news) (hl : news.length = size) (h1 : ∀ u ∈ news, u.oneCell' = true)
    (h63 : n + 1 ≤ maxLen) (hbytes : (n + 1) * bytes ≤ 140737488355328) (hB : B ≤ base) (hbase : base ≤ w.heap.size) (hB' : B ≤ w.heap.size)
    (h : ∀ A' c' w', Hid (w'.ownsRow base e size (.slice A' (n + 1) c') (n + 1) (xs ++ news)) → Below B w0 w' → w.heap.size ≤ w'.heap.size → wpList P ops Q rest (a.put o.dst (.slice A' (n + 1) c')) w') :
    wpList P ops Q (o :: rest) a (w.alloc (.cells cs te)) := by
  subst hgb
  refine wpList_append_own _ hgd s x t ho base e i z size bytes ht hi hz hsize hby hzs hsz v n xs hs (World.ownsRow.alloc hown.out _) ⟨w.heap.size, 0, none⟩ 1 1 news hx (by omega) (one_cells hn) h1 h63 hbytes (by simp; omega) ?_
  intro v' w' hown' hg _
  obtain ⟨A', c', rfl, _⟩ := own_form hown'
  refine h A' c' w' hown' ((hbel.alloc hB' _).grown hg (by simp; omega) ?_) ?_
  · intro k hk
    have := World.ownsRow.lt hown.out k hk
    omega
  · have := hg.size
    simp at this
    omega

theorem own_drew {w : World} {base : Nat} {e : TypeId} {size n : Nat} {v : Value} {xs : List Value} (h : Hid (w.ownsRow base e size v n xs)) : Hid (w.drew.ownsRow base e size v n xs) := h
theorem below_drew {w w' : World} {B : Nat} (h : Below B w w') : Below B w w'.drew := h.drew
theorem step_app1 {P : Program} {w w0 : World} {ops : Array Oper} {o : Oper} {a : Act} {K : Act → World → Prop} {Q : Exit → Act → World → Prop} {E : Prop} {B : Nat} {base : Nat} {e te : TypeId} {size n : Nat} {v : Value} {xs : List Value} {cs : Array Value}
    (hown : Hid (w.ownsRow base e size v n xs)) (hbel : Below B w0 w) (hgd : o.guard = none) (s x : Operand) (t : TypeId)
    (ho : o.op = .call { callee := .builtin .append, args := #[s, x], argTypes := #[t, t] })
    (i : TypeInfo) (z : Value) (bytes : Nat) (ht : P.underlying t = some (.slice e)) (hi : P.info? e = some i) (hz : i.zero = some z)
    (hsize : i.size = size) (hby : i.bytes = bytes) (hzs : z.cells.size = size) (hsz : 0 < size)
    (hs : a.eval s = v) {gb : Nat} (hx : a.eval x = .slice (some ⟨gb, 0, none⟩) 1 1) (hgb : gb = w.heap.size) (news : List Value) (hn : cs.toList = news) (hl : news.length = size) (h1 : ∀ u ∈ news, u.oneCell' = true)
    (h63 : n + 1 ≤ maxLen) (hbytes : (n + 1) * bytes ≤ 140737488355328) (hB : B ≤ base) (hbase : base ≤ w.heap.size) (hB' : B ≤ w.heap.size)
    (h : ∀ A' c' w', Hid (w'.ownsRow base e size (.slice A' (n + 1) c') (n + 1) (xs ++ news)) → Below B w0 w' → w.heap.size ≤ w'.heap.size → K (a.put o.dst (.slice A' (n + 1) c')) w') :
    if Region.wanted o (yielded ops a.tmps) = true then Oper.wp P o a (w.alloc (.cells cs te)) K Q else E := by
  subst hgb
  have hw : Region.wanted o (yielded ops a.tmps) = true := by simp [Region.wanted, hgd]
  rw [if_pos hw]
  refine wp_append_own _ s x t ho base e i z size bytes ht hi hz hsize hby hzs hsz v n xs hs (World.ownsRow.alloc hown.out _) ⟨w.heap.size, 0, none⟩ 1 1 news hx (by omega) (one_cells hn) h1 h63 hbytes (by simp; omega) ?_
  intro v' w' hown' hg _
  obtain ⟨A', c', rfl, _⟩ := own_form hown'
  refine h A' c' w' hown' ((hbel.alloc hB' _).grown hg (by simp; omega) ?_) ?_
  · intro k hk
    have := World.ownsRow.lt hown.out k hk
    omega
  · have := hg.size
    simp at this
    omega
theorem rd_new {w : World} {cs : Array Value} {te : TypeId} {xs : List Value} (h : cs.toList = xs) : Rd (w.alloc (.cells cs te)) (w.alloc (.cells cs te)).heap.size (some ⟨w.heap.size, 0, none⟩) xs := by
  refine .inr ⟨w.heap.size, 0, rfl, by simp, fun i v hv => ?_⟩
  have := one_cells (w := w) (te := te) h i v hv
  rwa [show (⟨w.heap.size, 0, none⟩ : Addr).add i = ⟨w.heap.size, 0 + i, none⟩ by unfold Addr.add; split <;> simp_all] at this

theorem own_below {w w' : World} {base : Nat} {e : TypeId} {size n : Nat} {v : Value} {xs : List Value} (h : Hid (w.ownsRow base e size v n xs)) (hb : Below w.heap.size w w') : Hid (w'.ownsRow base e size v n xs) :=
  World.ownsRow.kept (row := none) h.out ⟨hb.os, hb.tape, hb.output, hb.size, fun k hk _ => hb.block k hk⟩ (by cases v.ownBlock <;> simp)

/-! ### a block known whole -/
def Blk (w : World) (g : Nat) (te : TypeId) (cs : Array Value) : Prop := w.heap[g]? = some (.cells cs te (0, 0))
section
variable {w w' : World} {g : Nat} {te : TypeId} {cs : Array Value} {B : Nat}
theorem Blk.fresh (w : World) (te : TypeId) (cs : Array Value) : Blk (w.alloc (.cells cs te)) w.heap.size te cs := heap_alloc_new w _
theorem Blk.lt (h : Blk w g te cs) : g < w.heap.size := (Array.getElem?_eq_some_iff.1 h).1
theorem Blk.alloc (h : Blk w g te cs) (o : Obj) : Blk (w.alloc o) g te cs := (Below.heap_alloc w o g h.lt).trans h
theorem Blk.below (h : Blk w g te cs) (hb : Below B w w') (hg : g < B) : Blk w' g te cs := (hb.block g hg).trans h
theorem Blk.below' (h : Blk w g te cs) (hb : Below w.heap.size w w') : Blk w' g te cs := h.below hb h.lt
theorem Blk.drewN (h : Blk w g te cs) (n : Nat) : Blk (w.drewN n) g te cs := h
theorem Blk.cell (h : Blk w g te cs) (i : Nat) : w.cell? ⟨g, i, none⟩ = cs[i]? := cell_of_row w g i cs te (0, 0) h
theorem Blk.thaw (h : Blk w g te cs) (i : Nat) : w.frozen? ⟨g, i, none⟩ = false := by
  unfold Blk at h
  simp [World.frozen?, h]
theorem Blk.rd {xs : List Value} (h : Blk w g te cs) (hx : cs.toList = xs) (hg : g < B) : Rd w B (some ⟨g, 0, none⟩) xs := by
  refine .inr ⟨g, 0, rfl, hg, fun i v hi => ?_⟩
  subst hx
  rw [h.cell, Nat.zero_add]
  simpa using hi
theorem Blk.rd' {xs : List Value} (h : Blk w g te cs) (hx : cs.toList = xs) : Rd w w.heap.size (some ⟨g, 0, none⟩) xs := h.rd hx h.lt
end

/-! ### append of a whole row that is read -/
theorem run_appNil {P : Program} (w : World) (base : Nat) (t ty e : TypeId) (i : TypeInfo) (size : Nat) (ht : P.underlying t = some (.slice e)) (hi : P.info? e = some i)
    (v : Value) (n : Nat) (xs : List Value) (hown : w.ownsRow base e size v n xs) (c : Nat) : (Builtin.append_ #[t, t] ty #[v, .slice none 0 c]).run P w = .ok v w := by
  rcases hown.2 with ⟨h1, h2⟩ | ⟨g, cap, cur, h1, h2, h3, h4, h5⟩
  · subst h1; subst h2
    simp [Builtin.append_, run_underlying ht, sizeOf, typeInfo, hi, Builtin.lenOf, Builtin.firstCells]
  · subst h1
    simp [Builtin.append_, run_underlying ht, sizeOf, typeInfo, hi, Builtin.lenOf, Builtin.firstCells, h4, storeCells]
theorem run_appR {P : Program} {w w0 : World} {B Bx : Nat} {base : Nat} {e : TypeId} {size n m nm c : Nat} {v : Value} {xs news : List Value} {A : Option Addr}
    (hown : w.ownsRow base e size v n xs) (hbel : Below B w0 w) (hr : Rd w Bx A news) (hnm : nm = n + m) (t ty : TypeId)
    (i : TypeInfo) (z : Value) (bytes : Nat) (ht : P.underlying t = some (.slice e)) (hi : P.info? e = some i) (hz : i.zero = some z)
    (hsize : i.size = size) (hby : i.bytes = bytes) (hzs : z.cells.size = size) (hsz : 0 < size)
    (hl : news.length = m * size) (h1 : ∀ u ∈ news, u.oneCell' = true)
    (h63 : n + m ≤ maxLen) (hbytes : (n + m) * bytes ≤ 140737488355328) (hB : B ≤ base) (hbase : base ≤ w.heap.size) (hB' : B ≤ w.heap.size) :
    ∃ A' c' w', (Builtin.append_ #[t, t] ty #[v, .slice A m c]).run P w = .ok (.slice A' nm c') w' ∧ w'.ownsRow base e size (.slice A' nm c') nm (xs ++ news) ∧ Below B w0 w' ∧ w.heap.size ≤ w'.heap.size := by
  subst hnm
  cases A with
  | none =>
    have hn : news = [] := by
      rcases hr with h | ⟨b, o, h, _⟩
      · exact h
      · cases h
    subst hn
    have hm : m = 0 := by
      rcases Nat.eq_zero_or_pos m with h | h
      · exact h
      · have := Nat.mul_pos h hsz; simp at hl; omega
    subst hm
    obtain ⟨A', c', rfl, _⟩ := own_form hown
    exact ⟨A', c', w, run_appNil w base t ty e i size ht hi _ n xs hown c, by simpa using hown, hbel, Nat.le_refl _⟩
  | some ad =>
    have hnews : ∀ j u, news[j]? = some u → w.cell? (ad.add j) = some u := by
      intro j u hj
      rcases hr with h | ⟨b, o, h, _, hc⟩
      · subst h; simp at hj
      · injection h with h
        subst h
        rw [show (⟨b, o, none⟩ : Addr).add j = ⟨b, o + j, none⟩ by unfold Addr.add; split <;> simp_all]
        exact hc j u hj
    obtain ⟨v', w', hrun, hown', hg, _⟩ := run_append_own (P := P) w base t ty e i z size bytes ht hi hz hsize hby hzs hsz v n xs hown ad m c news hl hnews h1 h63 hbytes hbase
    obtain ⟨A', c', rfl, _⟩ := own_form hown'
    refine ⟨A', c', w', hrun, hown', hbel.grown hg hB' ?_, hg.size⟩
    intro k hk
    have := World.ownsRow.lt hown k hk
    omega
theorem wp_appR {P : Program} {w w0 : World} {o : Oper} {a : Act} {K : Act → World → Prop} {Q : Exit → Act → World → Prop} {B Bx : Nat} {base : Nat} {e : TypeId} {size n m nm c : Nat} {v : Value} {xs news : List Value} {A : Option Addr}
    (hown : Hid (w.ownsRow base e size v n xs)) (hbel : Below B w0 w) (hr : Hid (Rd w Bx A news)) (hnm : nm = n + m) (s x : Operand) (t : TypeId)
    (ho : o.op = .call { callee := .builtin .append, args := #[s, x], argTypes := #[t, t] })
    (i : TypeInfo) (z : Value) (bytes : Nat) (ht : P.underlying t = some (.slice e)) (hi : P.info? e = some i) (hz : i.zero = some z)
    (hsize : i.size = size) (hby : i.bytes = bytes) (hzs : z.cells.size = size) (hsz : 0 < size)
    (hs : a.eval s = v) (hx : a.eval x = .slice A m c) (hl : news.length = m * size) (h1 : ∀ u ∈ news, u.oneCell' = true)
    (h63 : n + m ≤ maxLen) (hbytes : (n + m) * bytes ≤ 140737488355328) (hB : B ≤ base) (hbase : base ≤ w.heap.size) (hB' : B ≤ w.heap.size)
    (h : ∀ A' c' w', Hid (w'.ownsRow base e size (.slice A' nm c') nm (xs ++ news)) → Below B w0 w' → w.heap.size ≤ w'.heap.size → K (a.put o.dst (.slice A' nm c')) w') : o.wp P a w K Q := by
  obtain ⟨A', c', w', hrun, h2, h3, h4⟩ := run_appR (P := P) hown.out hbel hr.out hnm t o.type i z bytes ht hi hz hsize hby hzs hsz hl h1 h63 hbytes hB hbase hB' (c := c)
  unfold Oper.wp execOp
  simp only [ho, resolve, invoke, builtin, Sem.run_bind, Sem.run_pure, Result.andThen_ok, List.map_toArray, List.map_cons, List.map_nil, hs, hx, hrun]
  exact h A' c' w' h2 h3 h4
theorem wpList_appR {P : Program} {w w0 : World} {ops : Array Oper} {rest : List Oper} {o : Oper} {a : Act} {Q : Exit → Act → World → Prop} {B Bx : Nat} {base : Nat} {e : TypeId} {size n m nm c : Nat} {v : Value} {xs news : List Value} {A : Option Addr}
    (hown : Hid (w.ownsRow base e size v n xs)) (hbel : Below B w0 w) (hr : Hid (Rd w Bx A news)) (hnm : nm = n + m) (hgd : o.guard = none) (s x : Operand) (t : TypeId)
    (ho : o.op = .call { callee := .builtin .append, args := #[s, x], argTypes := #[t, t] })
    (i : TypeInfo) (z : Value) (bytes : Nat) (ht : P.underlying t = some (.slice e)) (hi : P.info? e = some i) (hz : i.zero = some z)
    (hsize : i.size = size) (hby : i.bytes = bytes) (hzs : z.cells.size = size) (hsz : 0 < size)
    (hs : a.eval s = v) (hx : a.eval x = .slice A m c) (hl : news.length = m * size) (h1 : ∀ u ∈ news, u.oneCell' = true)
    (h63 : n + m ≤ maxLen) (hbytes : (n + m) * bytes ≤ 140737488355328) (hB : B ≤ base) (hbase : base ≤ w.heap.size) (hB' : B ≤ w.heap.size)
    (h : ∀ A' c' w', Hid (w'.ownsRow base e size (.slice A' nm c') nm (xs ++ news)) → Below B w0 w' → w.heap.size ≤ w'.heap.size → wpList P ops Q rest (a.put o.dst (.slice A' nm c')) w') :
    wpList P ops Q (o :: rest) a w :=
  wpList_plain hgd fun _ hK => wp_appR hown hbel hr hnm s x t ho i z bytes ht hi hz hsize hby hzs hsz hs hx hl h1 h63 hbytes hB hbase hB' fun A' c' w' h2 h3 h4 => hK _ _ (h A' c' w' h2 h3 h4)
theorem ints_one (xs : List Int) : ∀ u ∈ ints xs, u.oneCell' = true := by
  intro u hu
  simp only [ints, List.mem_map] at hu
  obtain ⟨x, _, rfl⟩ := hu
  rfl
theorem nds_one (l : List (Int × Int)) : ∀ u ∈ nds l, u.oneCell' = true := by
  intro u hu
  simp only [nds, ndV, List.mem_flatMap] at hu
  obtain ⟨x, _, h⟩ := hu
  simp at h
  rcases h with rfl | rfl <;> rfl
theorem own_empty {w : World} {g : Nat} {te : TypeId} {base size : Nat} (h : Blk w g te #[]) (hb : base ≤ g) : w.ownsRow base te size (.slice (some ⟨g, 0, none⟩) 0 0) 0 [] :=
  ⟨by simp, .inr ⟨g, 0, #[], rfl, hb, h, Nat.le_refl _, by unfold maxLen; omega, by simp, by simp⟩⟩

/-! ### opening an argument -/
section
variable {H : Type} {enc : TypeId × Value → H} {P : Program} {w : World}
theorem spot_none {w : World} {b o : Nat} {s : Option Nat} {v : Value} (h : w.cell? ((⟨b, o, s⟩ : Addr).add 0) = some v) : s = none := by
  cases s with
  | none => rfl
  | some k =>
    exfalso
    unfold World.cell? Addr.add at h
    simp only [if_true] at h
    split at h
    · simp at h
    · cases h
theorem add_lit' (b o n : Nat) : (⟨b, o, none⟩ : Addr).add n = ⟨b, o + n, none⟩ := by
  unfold Addr.add
  split
  · subst_vars; rfl
  · rfl
theorem blk_lt {w : World} {a : Addr} {v : Value} (h : w.cell? a = some v) : a.block < w.heap.size := World.block_lt_of_cell? w a h
/-- every argument reads as it did -/
theorem trodAll_below (hl : laidOutB P = true) {W W' : World} (hb : Below W.heap.size W W') : ∀ (ts : List TypeId) (vs : List Value) (ds : List (DataW H)) (ps : List MemPlace),
    (∀ t ∈ ts, P.readableRec t = true ∧ t < P.types.size) → DataW.TrodAll enc P W 0 (fun _ => true) true ts vs ds ps → (∀ x ∈ ps, x.block < W.heap.size) →
    DataW.TrodAll enc P W' 0 (fun b => decide (b < W.heap.size)) true ts vs ds ps
  | [], [], [], ps, _, h, _ => h
  | t :: ts, v :: vs, d :: ds, ps, hr, h, hlt => by
    obtain ⟨p, q, h1, h2, rfl⟩ := h
    have ht := hr t (by simp)
    exact ⟨p, q, Below.trod hl ht.1 ht.2 h1 hb (fun x hx => hlt x (List.mem_append_left _ hx)),
      trodAll_below hl hb ts vs ds q (fun t' ht' => hr t' (by simp [ht'])) h2 (fun x hx => hlt x (List.mem_append_right _ hx)), rfl⟩
  | [], _ :: _, _, _, _, h, _ => h.elim
  | [], [], _ :: _, _, _, h, _ => h.elim
  | _ :: _, [], _, _, _, h, _ => h.elim
  | _ :: _, _ :: _, [], _, _, h, _ => h.elim

/-- a law that returned true and only made memory -/
theorem law_post {f : Func} {s : ChangeSpec} {W W' : World} {args : Array Value} {ds gs : List (DataW H)} {before : List MemPlace} {tb : TypeId}
    (hW : DataW.Whole enc P f.params.toList s.vars false W args.toList ds gs before) (hv : s.vars = [])
    (hfn : (s.fn H ds).results = [.lit (.bool true)]) (hfa : (s.fn H ds).args = ds) (hfv : (s.fn H ds).vars = [])
    (hrt : f.resultTypes = #[tb]) (hu : P.underlying tb = some .bool) (hread : ∀ t ∈ f.params.toList, P.readableRec t = true ∧ t < P.types.size) (hl : laidOutB P = true)
    (hb : Below W.heap.size W W') : s.post enc P f false true false false W args (.bool true) W' := by
  have hW0 := hW
  obtain ⟨p, q, hA, hV, rfl, _, _⟩ := hW
  have hgs : gs = [] ∧ q = [] := by
    rw [hv] at hV
    exact trodVars_none hV
  obtain ⟨rfl, rfl⟩ := hgs
  simp only [List.append_nil] at hW0 ⊢
  have hlt : ∀ x ∈ p, x.block < W.heap.size := fun x hx => hW0.lt x hx
  refine ⟨ds, [], p, [], p, [], hW0, ?_, ?_, ?_, hb.frame _, fun h => by cases h⟩
  · rw [List.append_nil, hfn, hrt]
    exact trodAll_mk1 (shut_bool hu true)
  · rw [List.append_nil, hfa]
    exact trodAll_below hl hb _ _ _ _ hread hA hlt
  · rw [List.append_nil, hfv, hv]
    rfl
end
end Go.Proofs.Ytkmkaidhpbjbnaa.Mem

/- The contracts of package tree: each call answers as the plain functions over lists of pairs say, and makes memory of its own alone. Condition: the list lies in memory, its numbers are of 64 bits. -/
namespace Go.Proofs.Ytkmkaidhpbjbnaa.Tre
set_option maxRecDepth 100000
open Go.ChangeShapes Go.WideShapes Go.ChangeAt Go.RowKit Mem

/-! ### plain -/
def inR (n : Nat) (k : Int) : Bool := decide (0 ≤ k) && decide (k < n)
theorem inR_t {n : Nat} {k : Int} (h : 0 ≤ k) (h' : k < n) : inR n k = true := by unfold inR; simp [h, h']
theorem inR_f {n : Nat} {k : Int} (h : k < 0 ∨ n ≤ k) : inR n k = false := by unfold inR; simp; omega
theorem inR_of {n : Nat} {k : Int} (h : inR n k = true) : 0 ≤ k ∧ k < n := by unfold inR at h; simpa using h
def top (l : List (Int × Int)) : Nat → Nat → Bool
  | 0, _ => false
  | d + 1, a => nP l a == -1 || top l d (nP l a).toNat
def Par (l : List (Int × Int)) : Prop := ∀ i, i < l.length → -1 ≤ nP l i ∧ nP l i < l.length
def climbF (l : List (Int × Int)) : Nat → Nat → Int × Int
  | 0, _ => (0, -1)
  | g + 1, k => if top l 3 k then climbF l g (k + 1) else (16, k)
def scanF (l : List (Int × Int)) : Nat → Nat → Int × Int
  | 0, _ => climbF l l.length 0
  | g + 1, k => if nP l k = -1 ∨ inR l.length (nP l k) = true then (if 0 ≤ nC l k ∧ nC l k ≤ 4611686018427387904 then scanF l g (k + 1) else (1, k)) else (18, k)
def chk (l : List (Int × Int)) : Int × Int :=
  if 32 < l.length then (11, 0) else if l.length = 0 then (1, 0) else scanF l l.length 0
theorem top_m1 {l : List (Int × Int)} {g a : Nat} (h : nP l a = -1) : top l (g + 1) a = true := by unfold top; simp [h]
theorem top_up {l : List (Int × Int)} {g a : Nat} (h : (nP l a == -1) = false) : top l (g + 1) a = top l g (nP l a).toNat := by
  rw [top, h]; simp
def pathF (l : List (Int × Int)) : Nat → Int → List Int
  | 0, _ => []
  | g + 1, n => if inR l.length n then n :: pathF l g (nP l n.toNat) else []
def fitF (l : List (Int × Int)) : Nat → Int → Bool
  | 0, n => !inR l.length n
  | g + 1, n => if inR l.length n then fitF l g (nP l n.toNat) else true
theorem fit_top {l : List (Int × Int)} (hp : Par l) : ∀ (g a : Nat), a < l.length → fitF l g a = top l g a
  | 0, a, h => by simp [fitF, top, inR_t (n := l.length) (k := a) (by omega) (by omega)]
  | g + 1, a, h => by
    have hb := hp a h
    rw [fitF, if_pos (inR_t (by omega) (by omega)), Int.toNat_natCast]
    by_cases e : nP l a = -1
    · rw [top_m1 e, e]
      have : inR l.length (-1) = false := inR_f (by omega)
      cases g <;> simp [fitF, this]
    · have e' : (nP l a == -1) = false := by simp [e]
      rw [top_up e', ← fit_top hp g _ (by omega)]
      congr 1
      omega

def ToldB (b : Bool) (w : World) (e : Ending) (w' : World) : Prop := e = .returned (.bool b) ∧ w = w'
def Told2 (p : Int × Int) (w : World) (e : Ending) (w' : World) : Prop := e = .returned (.tuple #[.int .i64 p.1, .int .i64 p.2]) ∧ w = w'
def Made2 (p : Int × Int) (w : World) (e : Ending) (w' : World) : Prop := e = .returned (.tuple #[.int .i64 p.1, .int .i64 p.2]) ∧ Below w.heap.size w w'
theorem told2 {p : Int × Int} {a b : Int} {w : World} (h : p = (a, b)) : Told2 p w (.returned (.tuple #[.int .i64 a, .int .i64 b])) w := by subst h; exact ⟨rfl, rfl⟩
theorem made2 {p : Int × Int} {a b : Int} {w w' : World} (h : p = (a, b)) (hb : Below w.heap.size w w') : Made2 p w (.returned (.tuple #[.int .i64 a, .int .i64 b])) w' := by subst h; exact ⟨rfl, hb⟩

/-! ### the calls -/
theorem has_any (A : Option Addr) (n c : Nat) (k : Int) (w : World) :
    Calls Try.prog 65 #[.slice A n c, .int .i64 k] w (ToldB (inR n k) w) := by
  by_cases h0 : 0 ≤ k
  · by_cases h1 : k < n
    · go_enter Try.func65, Try.ntmps65
      go_wp2
      go_ret
      exact ⟨by rw [inR_t h0 h1]; rfl, rfl⟩
    · go_enter Try.func65, Try.ntmps65
      go_wp2
      go_ret
      exact ⟨by rw [inR_f (by omega)]; rfl, rfl⟩
  · go_enter Try.func65, Try.ntmps65
    go_wp2
    go_ret
    exact ⟨by rw [inR_f (by omega)]; rfl, rfl⟩

set_option maxHeartbeats 400000 in
theorem climb_any (b o c : Nat) (l : List (Int × Int)) (w : World) (hn : l.length ≤ 32) (hpar : Hid (Par l))
    (hp : Hid (∀ i, i < l.length → w.cell? ⟨b, o + i * 2, none⟩ = some (.int .i64 (nP l i)))) :
    Calls Try.prog 66 #[.slice (some ⟨b, o, none⟩) l.length c] w (Told2 (climbF l l.length 0) w) := by
  go_enter Try.func66, Try.ntmps66
  go_wp2
  go_step3
  go_wp2
  go_step3
  go_wp2
  go_loopg [8] l.length (fun g s8 w' => ∃ k : Nat, k + g = l.length ∧ s8 = .int .i64 k ∧ Hid (climbF l g k = climbF l l.length 0) ∧ w = w')
  case atStart => exact ⟨0, by omega, rfl, rfl, rfl⟩
  case round =>
    obtain ⟨k, hk, rfl, hall, rfl⟩ := hrel
    obtain ⟨g0, rfl⟩ : ∃ g : Nat, g = gk := ⟨_, rfl⟩
    by_cases hlt : (k : Int) < (l.length : Int)
    · go_wp2
      go_loopg [5, 12] 3 (fun g s5 s12 w' => ∃ a : Nat, a < l.length ∧ s5 = .int .i64 a ∧ s12 = .int .i64 ((3 : Int) - g) ∧ g ≤ 3 ∧ Hid (top l g a = top l 3 k) ∧ w = w')
      case atStart => exact ⟨k, by omega, rfl, rfl, by omega, rfl, rfl⟩
      case round =>
        obtain ⟨a, ha, rfl, rfl, hg, ht, rfl⟩ := hrel
        have hc := hp.out a ha
        have hb := hpar.out a ha
        by_cases hz : gk = 0
        · subst hz
          have ht' : Hid (climbF l l.length 0 = (16, (k : Int))) := by
            show _ = _
            rw [← hall.out, show g0 = (g0 - 1) + 1 by omega, climbF, ← ht.out]; rfl
          go_wp2
          rw [Exit.noGoto_ret]
          go_ret2
          exact told2 ht'.out
        · obtain ⟨g, rfl⟩ : ∃ g, gk = g + 1 := ⟨gk - 1, by omega⟩
          by_cases hm : nP l a = -1
          · have ht' : top l 3 k = true := by rw [← ht.out]; exact top_m1 hm
            have hall' : Hid (climbF l (g0 - 1) (k + 1) = climbF l l.length 0) := by
              show _ = _
              rw [← hall.out, show g0 = (g0 - 1) + 1 by omega, climbF, ht']; rfl
            have hm' : (nP l a == -1) = true := by simp [hm]
            have HM := Lib.hid hm
            clear hm ht' ht
            go_wp2
            go_roundg (g0 - 1)
            case measure => omega
            case rel => exact ⟨k + 1, by omega, by go_num, hall', rfl⟩
          · have hm' : (nP l a == -1) = false := by simp [hm]
            have ht' : Hid (top l g (nP l a).toNat = top l 3 k) := by
              show _ = _; rw [← ht.out]; exact (top_up hm').symm
            go_wp2
            go_roundg g
            case measure => omega
            case rel => exact ⟨(nP l a).toNat, by omega, by congr 1; omega, by congr 1; omega, by omega, ht', rfl⟩
    · have hall' : Hid (climbF l l.length 0 = (0, -1)) := by
        show _ = _
        rw [← hall.out, show g0 = 0 by omega]; rfl
      go_wp2
      try rw [Exit.noGoto_ret]
      go_ret2
      exact told2 hall'.out

theorem scan_18 {l : List (Int × Int)} {g k : Nat} (h : (nP l k != -1) = true) (h' : inR l.length (nP l k) = false) : scanF l (g + 1) k = (18, (k : Int)) := by
  rw [scanF, if_neg]; simp at h; simp [h, h']
theorem scan_1 {l : List (Int × Int)} {g k : Nat} (h : nP l k = -1 ∨ inR l.length (nP l k) = true) (h' : nC l k < 0 ∨ 4611686018427387904 < nC l k) : scanF l (g + 1) k = (1, (k : Int)) := by
  rw [scanF, if_pos h, if_neg (by omega)]
theorem scan_go {l : List (Int × Int)} {g k : Nat} (h : nP l k = -1 ∨ inR l.length (nP l k) = true) (h' : 0 ≤ nC l k) (h'' : nC l k ≤ 4611686018427387904) : scanF l (g + 1) k = scanF l g (k + 1) := by
  rw [scanF, if_pos h, if_pos ⟨h', h''⟩]

set_option maxHeartbeats 1000000 in
theorem check_any (A : Option Addr) (c : Nat) (l : List (Int × Int)) (w : World) (hl : Nds w w.heap.size A l) (hw : Hid (WfN l)) (hmax : (l.length : Int) ≤ 9223372036854775807) :
    Calls Try.prog 39 #[.slice A l.length c] w (Made2 (chk l) w) := by
  by_cases h32 : 32 < l.length
  · go_enter Try.func39, Try.ntmps39
    go_wp2
    go_ret2
    exact made2 (by rw [chk, if_pos h32]) (Below.refl _ _)
  by_cases h0 : l.length = 0
  · have h0' : l = [] := List.eq_nil_of_length_eq_zero h0
    subst h0'
    go_enter Try.func39, Try.ntmps39
    go_wp2
    go_ret2
    exact made2 rfl (Below.refl _ _)
  obtain ⟨b, o, rfl, hb, hc⟩ := hl.at (by omega)
  have HC := Lib.hid hc
  have H0 : ((l.length : Int) == 0) = false := beq_eq_false_iff_ne.2 (by omega)
  have hchk : Hid (chk l = scanF l l.length 0) := by show _ = _; rw [chk, if_neg h32, if_neg h0]
  clear hc hl h0
  go_enter Try.func39, Try.ntmps39
  go_wp2
  go_loopg [14] l.length (fun g s14 w' => ∃ k : Nat, k + g = l.length ∧ s14 = .int .i64 k ∧ Hid (scanF l g k = scanF l l.length 0) ∧ Hid (∀ j, j < k → nP l j = -1 ∨ inR l.length (nP l j) = true) ∧ Below w.heap.size w w')
  case atStart => exact ⟨0, by omega, rfl, rfl, fun j hj => absurd hj (Nat.not_lt_zero j), Below.refl _ _⟩
  case round =>
    obtain ⟨k, hk, rfl, hall, hpar, hbel⟩ := hrel
    by_cases hlt : (k : Int) < (l.length : Int)
    · obtain ⟨g, rfl⟩ : ∃ g, gk = g + 1 := ⟨gk - 1, by omega⟩
      have hc0 : wr.cell? ⟨b, o + k * 2, none⟩ = some (.int .i64 (nP l k)) := (hbel.cell (p := ⟨b, o + k * 2, none⟩) hb).trans (HC.out k (by omega)).1
      have hc1 : wr.cell? ⟨b, o + k * 2 + 1, none⟩ = some (.int .i64 (nC l k)) := (hbel.cell (p := ⟨b, o + k * 2 + 1, none⟩) hb).trans (HC.out k (by omega)).2
      have hbel2 : Below w.heap.size w (wr.alloc (.cells #[.int .i64 (nP l k), .int .i64 (nC l k)] 99)) := hbel.alloc hbel.size _
      by_cases hP : nP l k = -1 ∨ inR l.length (nP l k) = true
      · by_cases hC : 0 ≤ nC l k ∧ nC l k ≤ 4611686018427387904
        · have hall' : Hid (scanF l g (k + 1) = scanF l l.length 0) := (scan_go hP hC.1 hC.2).symm.trans hall.out
          have hpar' : Hid (∀ j, j < k + 1 → nP l j = -1 ∨ inR l.length (nP l j) = true) := fun j hj => by
            by_cases e : j = k
            · subst e; exact hP
            · exact hpar.out j (by omega)
          obtain ⟨hC0, hC1⟩ := hC
          by_cases hm : nP l k = -1
          · have h1 : (nP l k != -1) = false := by simp [hm]
            have h1' : (nP l k == -1) = true := by simp [hm]
            clear hm hP
            go_wp2_with fail
            go_roundg g
            case measure => omega
            case rel => exact ⟨k + 1, by omega, by go_num, hall', hpar', hbel2⟩
          · have h1 : (nP l k != -1) = true := by simp [hm]
            have h1' : (nP l k == -1) = false := by simp [hm]
            have h2 : inR l.length (nP l k) = true := hP.resolve_left hm
            clear hm hP
            go_wp2_with (go_at_call 65; refine (has_any _ _ _ _ _).mono ?_; rintro e w' ⟨rfl, rfl⟩)
            go_roundg g
            case measure => omega
            case rel => exact ⟨k + 1, by omega, by go_num, hall', hpar', hbel2⟩
        · have hres : Hid (scanF l l.length 0 = (1, (k : Int))) := by
            show _ = _
            rw [← hall.out]; exact scan_1 hP (by omega)
          by_cases hm : nP l k = -1
          · have h1 : (nP l k != -1) = false := by simp [hm]
            have h1' : (nP l k == -1) = true := by simp [hm]
            clear hm hP
            by_cases hC0 : nC l k < 0
            · go_wp2_with fail
              go_ret2
              exact made2 (hchk.out.trans hres.out) hbel2
            · have hC1 : 4611686018427387904 < nC l k := by omega
              clear hC
              go_wp2_with fail
              go_ret2
              exact made2 (hchk.out.trans hres.out) hbel2
          · have h1 : (nP l k != -1) = true := by simp [hm]
            have h1' : (nP l k == -1) = false := by simp [hm]
            have h2 : inR l.length (nP l k) = true := hP.resolve_left hm
            clear hm hP
            by_cases hC0 : nC l k < 0
            · go_wp2_with (go_at_call 65; refine (has_any _ _ _ _ _).mono ?_; rintro e w' ⟨rfl, rfl⟩)
              go_ret2
              exact made2 (hchk.out.trans hres.out) hbel2
            · have hC1 : 4611686018427387904 < nC l k := by omega
              clear hC
              go_wp2_with (go_at_call 65; refine (has_any _ _ _ _ _).mono ?_; rintro e w' ⟨rfl, rfl⟩)
              go_ret2
              exact made2 (hchk.out.trans hres.out) hbel2
      · have hm : ¬ nP l k = -1 := fun e => hP (.inl e)
        have h1 : (nP l k != -1) = true := by simp [hm]
        have h1' : (nP l k == -1) = false := by simp [hm]
        have h2 : inR l.length (nP l k) = false := by
          cases h : inR l.length (nP l k)
          · rfl
          · exact absurd (.inr h) hP
        have hres : Hid (scanF l l.length 0 = (18, (k : Int))) := by
          show _ = _
          rw [← hall.out]; exact scan_18 h1 h2
        clear hm hP
        go_wp2_with (go_at_call 65; refine (has_any _ _ _ _ _).mono ?_; rintro e w' ⟨rfl, rfl⟩)
        go_ret2
        exact made2 (hchk.out.trans hres.out) hbel2
    · have hres : Hid (scanF l l.length 0 = climbF l l.length 0) := by
        show _ = _
        rw [← hall.out, show gk = 0 by omega]; rfl
      have hpar' : Hid (Par l) := by
        intro i hi
        rcases hpar.out i (by omega) with h | h
        · omega
        · have := inR_of h; omega
      have hp' : Hid (∀ i, i < l.length → wr.cell? ⟨b, o + i * 2, none⟩ = some (.int .i64 (nP l i))) := fun i hi =>
        (hbel.cell (p := ⟨b, o + i * 2, none⟩) hb).trans (HC.out i hi).1
      go_wp2_with (go_at_call 66; refine (climb_any b o c l _ (by omega) hpar' hp').mono ?_; rintro e w' ⟨rfl, rfl⟩)
      go_ret2
      exact made2 (hchk.out.trans hres.out) hbel

theorem int_info : (Try.prog.info? 3).map (fun i => (i.zero, i.size, i.bytes)) = some (some (.int .i64 0), 1, 8) := by kernel_rfl

/-- a list of numbers in new memory -/
def MadeI (xs : List Int) (w : World) (e : Ending) (w' : World) : Prop := ∃ A c, e = .returned (.slice A xs.length c) ∧ Ris w' w'.heap.size A xs ∧ Below w.heap.size w w'
theorem madeI_mk {xs ys : List Int} {A : Option Addr} {c : Nat} {w w' : World} (h : ys = xs) (hr : Ris w' w'.heap.size A xs) (hb : Below w.heap.size w w') : MadeI ys w (.returned (.slice A xs.length c)) w' := by
  subst h; exact ⟨A, c, rfl, hr, hb⟩
/-- the same, in blocks from w's end on -/
def MadeIF (xs : List Int) (w : World) (e : Ending) (w' : World) : Prop := ∃ A c, e = .returned (.slice A xs.length c) ∧ Ris w' w'.heap.size A xs ∧ (∀ a, A = some a → w.heap.size ≤ a.block) ∧ Below w.heap.size w w'
theorem madeIF_mk {xs ys : List Int} {A : Option Addr} {c : Nat} {w w' : World} (h : ys = xs) (hr : Ris w' w'.heap.size A xs) (hf : ∀ a, A = some a → w.heap.size ≤ a.block) (hb : Below w.heap.size w w') : MadeIF ys w (.returned (.slice A xs.length c)) w' := by
  subst h; exact ⟨A, c, rfl, hr, hf, hb⟩
theorem own_fresh {w : World} {base : Nat} {e : TypeId} {size n m c : Nat} {A : Option Addr} {xs : List Value} (h : w.ownsRow base e size (.slice A m c) n xs) : ∀ a, A = some a → base ≤ a.block := by
  rintro a rfl
  rcases h.2 with ⟨h1, _⟩ | ⟨g, cap, cur, h1, h2, _⟩
  · cases h1
  · injection h1 with h1; injection h1 with h1; subst h1; exact h2
theorem pathF_out {l : List (Int × Int)} {g : Nat} {n : Int} (h : inR l.length n = false) : pathF l g n = [] := by
  cases g <;> simp [pathF, h]
theorem pathF_in {l : List (Int × Int)} {g : Nat} {n : Int} (h : inR l.length n = true) : pathF l (g + 1) n = n :: pathF l g (nP l n.toNat) := by
  rw [pathF, if_pos h]

set_option maxHeartbeats 1000000 in
theorem path_fresh (A : Option Addr) (c : Nat) (l : List (Int × Int)) (n : Int) (w : World) (hl : Nds w w.heap.size A l) (hw : Hid (WfN l)) (hmax : (l.length : Int) ≤ 9223372036854775807) (hn : inI n) :
    Calls Try.prog 88 #[.slice A l.length c, .int .i64 n] w (MadeIF (pathF l 3 n) w) := by
  obtain ⟨i0, hi, hz0, hz1, hz2⟩ := info_parts int_info
  have HL := Lib.hid hl
  clear hl
  go_enter Try.func88, Try.ntmps88
  go_wp2
  go_loopg [1, 5] 3 (fun g s1 s5 w' => ∃ (m : Int) (xs : List Int) (A' : Option Addr) (c' : Nat), xs.length + g = 3 ∧ inI m ∧ s1 = .int .i64 m ∧ s5 = .slice A' xs.length c' ∧ Hid (xs ++ pathF l g m = pathF l 3 n) ∧ Hid (w'.ownsRow w.heap.size 3 1 (.slice A' xs.length c') xs.length (ints xs)) ∧ Below w.heap.size w w')
  case atStart => exact ⟨n, [], none, 0, by simp, hn, rfl, rfl, rfl, World.ownsRow_nil _ _ _ _, Below.refl _ _⟩
  case round =>
    obtain ⟨m, xs, A', c', hg, hm, rfl, rfl, hres, hown, hbel⟩ := hrel
    by_cases hin : inR l.length m = true
    · by_cases h3 : xs.length < 3
      · obtain ⟨g, rfl⟩ : ∃ g, gk = g + 1 := ⟨gk - 1, by omega⟩
        have hx3 : decide ((xs.length : Int) < 3) = true := by simp; omega
        obtain ⟨hr0, hr1⟩ := inR_of hin
        obtain ⟨b, o, rfl, hb, hc⟩ := Nds.at HL.out (by omega)
        have hc0 := (hc m.toNat (by omega)).1
        have hp1 := (hw.out m.toNat (by omega)).1
        have hres1 : Hid ((xs ++ [m]) ++ pathF l g (nP l m.toNat) = pathF l 3 n) := by
          show _ = _
          rw [← hres.out, pathF_in hin, List.append_assoc]; rfl
        go_wp2_with (first
          | (at_builtin; refine wpList_app1 hown hbel rfl _ _ _ rfl i0 (.int .i64 0) 8 Try.underlying23 hi hz0 hz1 hz2 rfl (by decide) rfl rfl rfl [.int .i64 m] rfl rfl (by simp [Value.oneCell']) (by unfold maxLen; omega) (by omega) (Nat.le_refl _) hbel.size hbel.size ?_; intro A1 c1 w1 hown1 hbel1 hsz1; have hc1 : w1.cell? ⟨b, o + m.toNat * 2, none⟩ = some (.int .i64 (nP l m.toNat)) := (hbel1.cell (p := ⟨b, o + m.toNat * 2, none⟩) hb).trans hc0)
          | (go_at_call 65; refine (has_any _ _ _ _ _).mono ?_; rintro e w' ⟨rfl, rfl⟩))
        go_roundg g
        case measure => omega
        case rel => exact ⟨nP l m.toNat, xs ++ [m], A1, c1, by simp; omega, hp1, rfl, by simp, hres1, by rw [List.length_append, ints_snoc]; exact hown1, hbel1⟩
      · have hx3 : decide ((xs.length : Int) < 3) = false := by simp; omega
        have hres1 : Hid (xs = pathF l 3 n) := by
          show _ = _
          rw [← hres.out, show gk = 0 by omega]; simp [pathF]
        have hris : Hid (Ris wr wr.heap.size A' xs) := Rd.of_own hown.out
        have hfr := Lib.hid (own_fresh hown.out)
        go_wp2_with fail
        go_ret
        exact madeIF_mk hres1.out.symm hris.out hfr.out hbel
    · have hin : inR l.length m = false := by simpa using hin
      have hres1 : Hid (xs = pathF l 3 n) := by
        show _ = _
        rw [← hres.out, pathF_out hin]; simp
      have hris : Hid (Ris wr wr.heap.size A' xs) := Rd.of_own hown.out
      have hfr := Lib.hid (own_fresh hown.out)
      by_cases h3 : xs.length < 3
      · have hx3 : decide ((xs.length : Int) < 3) = true := by simp; omega
        go_wp2_with (go_at_call 65; refine (has_any _ _ _ _ _).mono ?_; rintro e w' ⟨rfl, rfl⟩)
        go_ret
        exact madeIF_mk hres1.out.symm hris.out hfr.out hbel
      · have hx3 : decide ((xs.length : Int) < 3) = false := by simp; omega
        go_wp2_with fail
        go_ret
        exact madeIF_mk hres1.out.symm hris.out hfr.out hbel

end Go.Proofs.Ytkmkaidhpbjbnaa.Tre

/- The contracts of the reference of layer 3 and of the law's own helpers: each call answers as the plain functions over lists of pairs say, and makes memory of its own alone. Condition: the list lies in memory, its numbers are of 64 bits. -/
namespace Go.Proofs.Ytkmkaidhpbjbnaa.Ref3
set_option maxRecDepth 100000
open Go.ChangeShapes Go.WideShapes Go.ChangeAt Go.RowKit Mem Tre

def MadeIB (xs : List Int) (b : Bool) (w : World) (e : Ending) (w' : World) : Prop := ∃ A c, e = .returned (.tuple #[.slice A xs.length c, .bool b]) ∧ Ris w' w'.heap.size A xs ∧ Below w.heap.size w w'
theorem madeIB_mk {xs ys : List Int} {b b' : Bool} {A : Option Addr} {c : Nat} {w w' : World} (h : ys = xs) (hb' : b' = b) (hr : Ris w' w'.heap.size A xs) (hb : Below w.heap.size w w') : MadeIB ys b' w (.returned (.tuple #[.slice A xs.length c, .bool b])) w' := by
  subst h; subst hb'; exact ⟨A, c, rfl, hr, hb⟩
theorem fitF_out {l : List (Int × Int)} {g : Nat} {n : Int} (h : inR l.length n = false) : fitF l g n = true := by
  cases g <;> simp [fitF, h]
theorem fitF_in {l : List (Int × Int)} {g : Nat} {n : Int} (h : inR l.length n = true) : fitF l (g + 1) n = fitF l g (nP l n.toNat) := by
  rw [fitF, if_pos h]

set_option maxHeartbeats 1000000 in
theorem rclimb_any (A : Option Addr) (c : Nat) (l : List (Int × Int)) (n : Int) (w : World) (hl : Hid (Nds w w.heap.size A l)) (hw : Hid (WfN l)) (hmax : (l.length : Int) ≤ 9223372036854775807) (hn : inI n) :
    Calls Try.prog 44 #[.slice A l.length c, .int .i64 n] w (MadeIB (pathF l 3 n) (fitF l 3 n) w) := by
  obtain ⟨i0, hi, hz0, hz1, hz2⟩ := info_parts int_info
  go_enter Try.func44, Try.ntmps44
  go_wp2
  go_loopg [1, 6] 3 (fun g s1 s6 w' => ∃ (m : Int) (xs : List Int) (A' : Option Addr) (c' : Nat), xs.length + g = 3 ∧ inI m ∧ s1 = .int .i64 m ∧ s6 = .slice A' xs.length c' ∧ Hid (xs ++ pathF l g m = pathF l 3 n) ∧ Hid (fitF l g m = fitF l 3 n) ∧ Hid (w'.ownsRow w.heap.size 3 1 (.slice A' xs.length c') xs.length (ints xs)) ∧ Below w.heap.size w w')
  case atStart => exact ⟨n, [], none, 0, by simp, hn, rfl, rfl, rfl, rfl, World.ownsRow_nil _ _ _ _, Below.refl _ _⟩
  case round =>
    obtain ⟨m, xs, A', c', hg, hm, rfl, rfl, hres, hfit, hown, hbel⟩ := hrel
    have hris : Hid (Ris wr wr.heap.size A' xs) := Rd.of_own hown.out
    by_cases hin : inR l.length m = true
    · obtain ⟨hr0, hr1⟩ := inR_of hin
      obtain ⟨b, o, rfl, hb, hc⟩ := Nds.at hl.out (by omega)
      by_cases h3 : xs.length < 3
      · obtain ⟨g, rfl⟩ : ∃ g, gk = g + 1 := ⟨gk - 1, by omega⟩
        have hx3 : decide (3 ≤ (xs.length : Int)) = false := by simp; omega
        have hc0 := (hc m.toNat (by omega)).1
        have hp1 := (hw.out m.toNat (by omega)).1
        have hres1 : Hid ((xs ++ [m]) ++ pathF l g (nP l m.toNat) = pathF l 3 n) := by
          show _ = _
          rw [← hres.out, pathF_in hin, List.append_assoc]; rfl
        have hfit1 : Hid (fitF l g (nP l m.toNat) = fitF l 3 n) := by
          show _ = _
          rw [← hfit.out, fitF_in hin]
        have HH := Lib.hid hc
        clear hc hin
        go_wp2_with (first
          | (at_builtin; refine wpList_app1 hown hbel rfl _ _ _ rfl i0 (.int .i64 0) 8 Try.underlying23 hi hz0 hz1 hz2 rfl (by decide) rfl rfl rfl [.int .i64 m] rfl rfl (by simp [Value.oneCell']) (by unfold maxLen; omega) (by omega) (Nat.le_refl _) hbel.size hbel.size ?_; intro A1 c1 w1 hown1 hbel1 hsz1; have hc1 : w1.cell? ⟨b, o + m.toNat * 2, none⟩ = some (.int .i64 (nP l m.toNat)) := (hbel1.cell (p := ⟨b, o + m.toNat * 2, none⟩) hb).trans hc0))
        go_roundg g
        case measure => omega
        case rel => exact ⟨nP l m.toNat, xs ++ [m], A1, c1, by simp; omega, hp1, rfl, by simp, hres1, hfit1, by rw [List.length_append, ints_snoc]; exact hown1, hbel1⟩
      · have hx3 : decide (3 ≤ (xs.length : Int)) = true := by simp; omega
        have hres1 : Hid (pathF l 3 n = xs) := by
          show _ = _
          rw [← hres.out, show gk = 0 by omega]; simp [pathF]
        have hfit1 : Hid (fitF l 3 n = false) := by
          show _ = _
          rw [← hfit.out, show gk = 0 by omega]; simp [fitF, hin]
        clear hc hin
        go_wp2_with fail
        go_ret2
        exact madeIB_mk hres1.out hfit1.out hris.out hbel
    · have hin : inR l.length m = false := by simpa using hin
      have hres1 : Hid (pathF l 3 n = xs) := by
        show _ = _
        rw [← hres.out, pathF_out hin]; simp
      have hfit1 : Hid (fitF l 3 n = true) := by
        show _ = _
        rw [← hfit.out, fitF_out hin]
      have hq : m < 0 ∨ l.length ≤ m := by
        by_cases h0 : m < 0
        · exact .inl h0
        · right
          by_cases h1 : m < l.length
          · have := inR_t (n := l.length) (k := m) (by omega) h1
            rw [this] at hin; cases hin
          · omega
      clear hin
      by_cases h0 : m < 0
      · go_wp2_with fail
        go_ret2
        exact madeIB_mk hres1.out hfit1.out hris.out hbel
      · have h1 : l.length ≤ m := by omega
        have h2 : 0 ≤ m := by omega
        clear hq
        go_wp2_with fail
        go_ret2
        exact madeIB_mk hres1.out hfit1.out hris.out hbel

theorem rpath_any (A : Option Addr) (c : Nat) (l : List (Int × Int)) (n : Int) (w : World) (hl : Hid (Nds w w.heap.size A l)) (hw : Hid (WfN l)) (hmax : (l.length : Int) ≤ 9223372036854775807) (hn : inI n) :
    Calls Try.prog 63 #[.slice A l.length c, .int .i64 n] w (MadeI (pathF l 3 n) w) := by
  go_enter Try.func63, Try.ntmps63
  go_wp2_with (go_at_call 44; refine (rclimb_any _ _ _ _ _ hl hw hmax hn).mono ?_; rintro e w1 ⟨A', c', rfl, hr, hb⟩; have HR := Lib.hid hr; clear hr)
  go_ret
  exact madeI_mk rfl HR.out hb

theorem climbF_go {l : List (Int × Int)} {g k : Nat} (h : top l 3 k = true) : climbF l (g + 1) k = climbF l g (k + 1) := by rw [climbF, if_pos h]
theorem climbF_no {l : List (Int × Int)} {g k : Nat} (h : top l 3 k = false) : climbF l (g + 1) k = (16, (k : Int)) := by rw [climbF, h]; rfl

set_option maxHeartbeats 1000000 in
theorem rcheck_any (A : Option Addr) (c : Nat) (l : List (Int × Int)) (w : World) (hl : Hid (Nds w w.heap.size A l)) (hw : Hid (WfN l)) (hmax : (l.length : Int) ≤ 9223372036854775807) :
    Calls Try.prog 21 #[.slice A l.length c] w (Made2 (chk l) w) := by
  by_cases h32 : 32 < l.length
  · go_enter Try.func21, Try.ntmps21
    go_wp2
    go_ret2
    exact made2 (by rw [chk, if_pos h32]) (Below.refl _ _)
  by_cases h0 : l.length = 0
  · have h0' : l = [] := List.eq_nil_of_length_eq_zero h0
    subst h0'
    go_enter Try.func21, Try.ntmps21
    go_wp2
    go_ret2
    exact made2 rfl (Below.refl _ _)
  obtain ⟨b, o, hA, hb, hc⟩ := Nds.at hl.out (by omega)
  have HC := Lib.hid hc
  have H0 : ((l.length : Int) == 0) = false := beq_eq_false_iff_ne.2 (by omega)
  have hchk : Hid (chk l = scanF l l.length 0) := by show _ = _; rw [chk, if_neg h32, if_neg h0]
  clear hc h0
  subst hA
  go_enter Try.func21, Try.ntmps21
  go_wp2
  go_loopg [4] l.length (fun g s4 w' => ∃ k : Nat, k + g = l.length ∧ s4 = .int .i64 k ∧ Hid (scanF l g k = scanF l l.length 0) ∧ Hid (∀ j, j < k → nP l j = -1 ∨ inR l.length (nP l j) = true) ∧ w = w')
  case atStart => exact ⟨0, by omega, rfl, rfl, fun j hj => absurd hj (Nat.not_lt_zero j), rfl⟩
  case round =>
    obtain ⟨k, hk, rfl, hall, hpar, rfl⟩ := hrel
    by_cases hlt : (k : Int) < (l.length : Int)
    · obtain ⟨g, rfl⟩ : ∃ g, gk = g + 1 := ⟨gk - 1, by omega⟩
      have hc0 : w.cell? ⟨b, o + k * 2, none⟩ = some (.int .i64 (nP l k)) := (HC.out k (by omega)).1
      have hc1 : w.cell? ⟨b, o + k * 2 + 1, none⟩ = some (.int .i64 (nC l k)) := (HC.out k (by omega)).2
      by_cases hP : -1 ≤ nP l k ∧ nP l k < l.length
      · have hP' : nP l k = -1 ∨ inR l.length (nP l k) = true := by
          by_cases e : nP l k = -1
          · exact .inl e
          · exact .inr (inR_t (by omega) (by omega))
        obtain ⟨hP0, hP1⟩ := hP
        by_cases hC : 0 ≤ nC l k ∧ nC l k ≤ 4611686018427387904
        · have hall' : Hid (scanF l g (k + 1) = scanF l l.length 0) := (scan_go hP' hC.1 hC.2).symm.trans hall.out
          have hpar' : Hid (∀ j, j < k + 1 → nP l j = -1 ∨ inR l.length (nP l j) = true) := fun j hj => by
            by_cases e : j = k
            · subst e; exact hP'
            · exact hpar.out j (by omega)
          obtain ⟨hC0, hC1⟩ := hC
          clear hP'
          go_wp2_with fail
          go_roundg g
          case measure => omega
          case rel => exact ⟨k + 1, by omega, by go_num, hall', hpar', rfl⟩
        · have hres : Hid (scanF l l.length 0 = (1, (k : Int))) := by
            show _ = _
            rw [← hall.out]; exact scan_1 hP' (by omega)
          clear hP'
          by_cases hC0 : nC l k < 0
          · clear hC
            go_wp2_with fail
            go_ret2
            exact made2 (hchk.out.trans hres.out) (Below.refl _ _)
          · have hC1 : 4611686018427387904 < nC l k := by omega
            clear hC
            go_wp2_with fail
            go_ret2
            exact made2 (hchk.out.trans hres.out) (Below.refl _ _)
      · have hm : (nP l k != -1) = true := by simp; omega
        have hres : Hid (scanF l l.length 0 = (18, (k : Int))) := by
          show _ = _
          rw [← hall.out]; exact scan_18 hm (inR_f (by omega))
        clear hm
        by_cases hP0 : nP l k < -1
        · clear hP
          go_wp2_with fail
          go_ret2
          exact made2 (hchk.out.trans hres.out) (Below.refl _ _)
        · have hP1 : (l.length : Int) ≤ nP l k := by omega
          clear hP
          go_wp2_with fail
          go_ret2
          exact made2 (hchk.out.trans hres.out) (Below.refl _ _)
    · have hres : Hid (scanF l l.length 0 = climbF l l.length 0) := by
        show _ = _
        rw [← hall.out, show gk = 0 by omega]; rfl
      have hparA : Hid (Par l) := by
        intro i hi
        rcases hpar.out i (by omega) with h | h
        · omega
        · have := inR_of h; omega
      clear hpar hall
      go_wp2_with fail
      go_loopg [5] l.length (fun g s5 w' => ∃ k : Nat, k + g = l.length ∧ s5 = .int .i64 k ∧ Hid (climbF l g k = climbF l l.length 0) ∧ Below w.heap.size w w')
      case atStart => exact ⟨0, by omega, rfl, rfl, Below.refl _ _⟩
      case round =>
        obtain ⟨j, hj, rfl, hall, hbel⟩ := hrel
        have hl' : Hid (Nds wr wr.heap.size (some ⟨b, o, none⟩) l) := Rd.below' hl.out hbel hbel.size
        by_cases hlt : (j : Int) < (l.length : Int)
        · obtain ⟨g, rfl⟩ : ∃ g, gk = g + 1 := ⟨gk - 1, by omega⟩
          have hft := fit_top hparA.out 3 j (by omega)
          cases ht : top l 3 j with
          | true =>
            have hall' : Hid (climbF l g (j + 1) = climbF l l.length 0) := (climbF_go ht).symm.trans hall.out
            rw [ht] at hft
            clear ht
            go_wp2_with (go_at_call 44; refine (rclimb_any _ _ _ _ _ hl' hw hmax ⟨by omega, by omega⟩).mono ?_; rintro e w1 ⟨A', c', rfl, hr, hb1⟩; have HR := Lib.hid hr; clear hr)
            go_roundg g
            case measure => omega
            case rel => exact ⟨j + 1, by omega, by go_num, hall', hbel.trans (hb1.mono hbel.size)⟩
          | false =>
            have hres2 : Hid (climbF l l.length 0 = (16, (j : Int))) := hall.out.symm.trans (climbF_no ht)
            rw [ht] at hft
            clear ht
            go_wp2_with (go_at_call 44; refine (rclimb_any _ _ _ _ _ hl' hw hmax ⟨by omega, by omega⟩).mono ?_; rintro e w1 ⟨A', c', rfl, hr, hb1⟩; have HR := Lib.hid hr; clear hr)
            go_ret2
            exact made2 (hchk.out.trans (hres.out.trans hres2.out)) (hbel.trans (hb1.mono hbel.size))
        · have hres2 : Hid (climbF l l.length 0 = (0, -1)) := by
            show _ = _
            rw [← hall.out, show gk = 0 by omega]; rfl
          go_wp2_with fail
          go_ret2
          exact made2 (hchk.out.trans (hres.out.trans hres2.out)) hbel
end Go.Proofs.Ytkmkaidhpbjbnaa.Ref3

/- The contracts of the law's helpers over lists of pairs and of numbers. Condition: the lists lie in memory, their numbers are of 64 bits. -/
namespace Go.Proofs.Ytkmkaidhpbjbnaa.Law3
set_option maxRecDepth 100000
open Go.ChangeShapes Go.WideShapes Go.ChangeAt Go.RowKit Mem Tre Ref3
set_option linter.unusedVariables false

theorem node_info : (Try.prog.info? 99).map (fun i => (i.zero, i.size, i.bytes)) = some (some (.agg #[.int .i64 0, .int .i64 0]), 2, 16) := by kernel_rfl
theorem rnode_info : (Try.prog.info? 109).map (fun i => (i.zero, i.size, i.bytes)) = some (some (.agg #[.int .i64 0, .int .i64 0]), 2, 16) := by kernel_rfl

theorem take_snoc {l : List (Int × Int)} {k : Nat} (h : k < l.length) : l.take (k + 1) = l.take k ++ [(nP l k, nC l k)] := by
  have e : l[k] = (nP l k, nC l k) := by simp [nP, nC, h]
  rw [List.take_succ_eq_append_getElem h, e]

def MadeB (b : Bool) (w : World) (e : Ending) (w' : World) : Prop := e = .returned (.bool b) ∧ Below w.heap.size w w'
theorem madeB_mk {b b' : Bool} {w w' : World} (h : b' = b) (hb : Below w.heap.size w w') : MadeB b' w (.returned (.bool b)) w' := by subst h; exact ⟨rfl, hb⟩

end Go.Proofs.Ytkmkaidhpbjbnaa.Law3

/- Plain words for book: orders that are open, rows of accounts, a book; how they lie in memory. No program, no condition. -/

namespace Go.Proofs.Ytkmkaidhpbjbnaa.Bkp
set_option maxRecDepth 100000
open Go.ChangeShapes Go.WideShapes Go.RowKit Mem Tre Ref3 Law3
set_option linter.unusedVariables false

theorem blk_hd {w : World} {te : TypeId} {cs : Array Value} {g : Nat} (h : g = w.heap.size) : Blk (w.alloc (.cells cs te)) g te cs := by subst h; exact Blk.fresh _ _ _
/-- an order -/
structure Od where
  a : Int
  s : Int
  x : Bool
  p : Int
  q : Int
  n : Int
  t : Int
def odA (o : Od) : Value := .agg #[.int .i64 o.a, .int .i64 o.s, .bool o.x, .int .i64 o.p, .int .i64 o.q, .int .i64 o.n, .int .i64 o.t]
def od0 : Od := ⟨0, 0, false, 0, 0, 0, 0⟩
/-- an open order -/
structure En where
  id : Int
  o : Od
  lf : Int
  st : Int
  ep : Int
def enV (e : En) : List Value := [.int .i64 e.id, .int .i64 e.o.a, .int .i64 e.o.s, .bool e.o.x, .int .i64 e.o.p, .int .i64 e.o.q, .int .i64 e.o.n, .int .i64 e.o.t, .int .i64 e.lf, .int .i64 e.st, .int .i64 e.ep]
def enA (e : En) : Value := .agg #[.int .i64 e.id, .int .i64 e.o.a, .int .i64 e.o.s, .bool e.o.x, .int .i64 e.o.p, .int .i64 e.o.q, .int .i64 e.o.n, .int .i64 e.o.t, .int .i64 e.lf, .int .i64 e.st, .int .i64 e.ep]
def en0 : En := ⟨0, od0, 0, 0, 0⟩
def gE (l : List En) (i : Nat) : En := l.getD i en0
def ens (l : List En) : List Value := l.flatMap enV
theorem ens_len (l : List En) : (ens l).length = l.length * 11 := by
  induction l with
  | nil => rfl
  | cons p l ih => simp [ens, enV] at ih ⊢; omega
theorem ens_app (l m : List En) : ens (l ++ m) = ens l ++ ens m := by simp [ens]
theorem ens_snoc (l : List En) (e : En) : ens (l ++ [e]) = ens l ++ enV e := by simp [ens]
theorem ens_one (l : List En) : ∀ u ∈ ens l, u.oneCell' = true := by
  intro u hu
  simp only [ens, List.mem_flatMap] at hu
  obtain ⟨e, _, he⟩ := hu
  simp only [enV, List.mem_cons, List.not_mem_nil, or_false] at he
  rcases he with rfl | rfl | rfl | rfl | rfl | rfl | rfl | rfl | rfl | rfl | rfl <;> rfl
theorem ens_get (l : List En) (i j : Nat) (hi : i < l.length) (hj : j < 11) : (ens l)[i * 11 + j]? = (enV (gE l i))[j]? := by
  induction l generalizing i with
  | nil => simp at hi
  | cons m l ih =>
    cases i with
    | zero =>
      show (enV m ++ ens l)[0 * 11 + j]? = (enV m)[j]?
      rw [List.getElem?_append_left (by simp [enV]; omega)]
      simp
    | succ i =>
      have h := ih i (by simpa using hi)
      show (enV m ++ ens l)[(i + 1) * 11 + j]? = (enV (gE l i))[j]?
      rw [List.getElem?_append_right (by simp [enV]; omega), ← h]
      congr 1
      simp [enV]
      omega
theorem ens_drop (l : List En) (k : Nat) : (ens l).drop (k * 11) = ens (l.drop k) := by
  induction k generalizing l with
  | zero => simp
  | succ k ih =>
    cases l with
    | nil => simp [ens]
    | cons e l =>
      have h : ens (e :: l) = enV e ++ ens l := rfl
      have e1 : (k + 1) * 11 = (enV e).length + k * 11 := by simp [enV]; omega
      rw [h, e1, List.drop_append, Nat.add_sub_cancel_left, ih]
      simp
theorem ens_take (l : List En) (k : Nat) : (ens l).take (k * 11) = ens (l.take k) := by
  induction k generalizing l with
  | zero => simp [ens]
  | succ k ih =>
    cases l with
    | nil => simp [ens]
    | cons e l =>
      have h : ens (e :: l) = enV e ++ ens l := rfl
      have e1 : (k + 1) * 11 = (enV e).length + k * 11 := by simp [enV]; omega
      rw [h, e1, List.take_append, Nat.add_sub_cancel_left, ih, List.take_of_length_le (by omega)]
      rfl
theorem Ens.at {w : World} {B : Nat} {A : Option Addr} {l : List En} (h : Rd w B A (ens l)) (hi : 0 < l.length) :
    ∃ b o, A = some ⟨b, o, none⟩ ∧ b < B ∧ ∀ j, j < l.length → w.cell? ⟨b, o + j * 11, none⟩ = some (.int .i64 (gE l j).id) ∧ w.cell? ⟨b, o + j * 11 + 1, none⟩ = some (.int .i64 (gE l j).o.a) ∧ w.cell? ⟨b, o + j * 11 + 2, none⟩ = some (.int .i64 (gE l j).o.s) ∧ w.cell? ⟨b, o + j * 11 + 3, none⟩ = some (.bool (gE l j).o.x) ∧ w.cell? ⟨b, o + j * 11 + 4, none⟩ = some (.int .i64 (gE l j).o.p) ∧ w.cell? ⟨b, o + j * 11 + 5, none⟩ = some (.int .i64 (gE l j).o.q) ∧ w.cell? ⟨b, o + j * 11 + 6, none⟩ = some (.int .i64 (gE l j).o.n) ∧ w.cell? ⟨b, o + j * 11 + 7, none⟩ = some (.int .i64 (gE l j).o.t) ∧ w.cell? ⟨b, o + j * 11 + 8, none⟩ = some (.int .i64 (gE l j).lf) ∧ w.cell? ⟨b, o + j * 11 + 9, none⟩ = some (.int .i64 (gE l j).st) ∧ w.cell? ⟨b, o + j * 11 + 10, none⟩ = some (.int .i64 (gE l j).ep) := by
  obtain ⟨b, o, hA, hb, hc⟩ := Rd.at h (by intro e; have := ens_len l; rw [e] at this; simp at this; omega)
  refine ⟨b, o, hA, hb, fun j hj => ?_⟩
  have g : ∀ k, k < 11 → ∀ v, (enV (gE l j))[k]? = some v → w.cell? ⟨b, o + j * 11 + k, none⟩ = some v := by
    intro k hk v hv
    rw [Nat.add_assoc]
    exact hc _ _ ((ens_get l j k hj hk).trans hv)
  exact ⟨g 0 (by decide) _ rfl, g 1 (by decide) _ rfl, g 2 (by decide) _ rfl, g 3 (by decide) _ rfl, g 4 (by decide) _ rfl, g 5 (by decide) _ rfl, g 6 (by decide) _ rfl, g 7 (by decide) _ rfl, g 8 (by decide) _ rfl, g 9 (by decide) _ rfl, g 10 (by decide) _ rfl⟩
/-- an account's row -/
structure Ro where
  ns : List Int
  sec : Int
  cnt : Int
def ro0 : Ro := ⟨[], 0, 0⟩
def gR (l : List Ro) (i : Nat) : Ro := l.getD i ro0
/-- a row as it lies: where its numbers are -/
structure Rc where
  A : Option Addr
  c : Nat
  r : Ro
def rc0 : Rc := ⟨none, 0, ro0⟩
def gC (l : List Rc) (i : Nat) : Rc := l.getD i rc0
def rcV (x : Rc) : List Value := [.slice x.A x.r.ns.length x.c, .int .i64 x.r.sec, .int .i64 x.r.cnt]
def rcs (l : List Rc) : List Value := l.flatMap rcV
theorem rcs_len (l : List Rc) : (rcs l).length = l.length * 3 := by
  induction l with
  | nil => rfl
  | cons p l ih => simp [rcs, rcV] at ih ⊢; omega
theorem rcs_one (l : List Rc) : ∀ u ∈ rcs l, u.oneCell' = true := by
  intro u hu
  simp only [rcs, List.mem_flatMap] at hu
  obtain ⟨e, _, he⟩ := hu
  simp only [rcV, List.mem_cons, List.not_mem_nil, or_false] at he
  rcases he with rfl | rfl | rfl <;> rfl
theorem rcs_get (l : List Rc) (i j : Nat) (hi : i < l.length) (hj : j < 3) : (rcs l)[i * 3 + j]? = (rcV (gC l i))[j]? := by
  induction l generalizing i with
  | nil => simp at hi
  | cons m l ih =>
    cases i with
    | zero =>
      show (rcV m ++ rcs l)[0 * 3 + j]? = (rcV m)[j]?
      rw [List.getElem?_append_left (by simp [rcV]; omega)]
      simp
    | succ i =>
      have h := ih i (by simpa using hi)
      show (rcV m ++ rcs l)[(i + 1) * 3 + j]? = (rcV (gC l i))[j]?
      rw [List.getElem?_append_right (by simp [rcV]; omega), ← h]
      congr 1
      simp [rcV]
      omega
theorem rcs_set (l : List Rc) (i : Nat) (x : Rc) (hi : i < l.length) : rcs (l.set i x) = (((rcs l).set (i * 3) (.slice x.A x.r.ns.length x.c)).set (i * 3 + 1) (.int .i64 x.r.sec)).set (i * 3 + 2) (.int .i64 x.r.cnt) := by
  induction l generalizing i with
  | nil => simp at hi
  | cons m l ih =>
    cases i with
    | zero => simp [rcs, rcV]
    | succ i =>
      have h := ih i (by simpa using hi)
      have e : ∀ l', rcs (m :: l') = rcV m ++ rcs l' := fun _ => rfl
      have e1 : (i + 1) * 3 = i * 3 + 1 + 1 + 1 := by omega
      simp only [List.set_cons_succ]
      rw [e, e, h, e1]
      simp [rcV]
theorem rcs_setA (l : List Rc) (i : Nat) (hi : i < l.length) (A : Option Addr) (c : Nat) (ns : List Int) : rcs (l.set i ⟨A, c, ⟨ns, (gC l i).r.sec, (gC l i).r.cnt⟩⟩) = (rcs l).set (i * 3) (.slice A ns.length c) := by
  induction l generalizing i with
  | nil => simp at hi
  | cons m l ih =>
    cases i with
    | zero => simp [rcs, rcV, gC]
    | succ i =>
      have h := ih i (by simpa using hi)
      have e : ∀ l', rcs (m :: l') = rcV m ++ rcs l' := fun _ => rfl
      have e1 : (i + 1) * 3 = i * 3 + 1 + 1 + 1 := by omega
      have e2 : gC (m :: l) (i + 1) = gC l i := by simp [gC]
      simp only [List.set_cons_succ]
      rw [e, e, e1, e2, h]
      simp [rcV]
theorem Rcs.at {w : World} {B : Nat} {A : Option Addr} {l : List Rc} (h : Rd w B A (rcs l)) (hi : 0 < l.length) :
    ∃ b o, A = some ⟨b, o, none⟩ ∧ b < B ∧ ∀ j, j < l.length → w.cell? ⟨b, o + j * 3, none⟩ = some (.slice (gC l j).A (gC l j).r.ns.length (gC l j).c) ∧ w.cell? ⟨b, o + j * 3 + 1, none⟩ = some (.int .i64 (gC l j).r.sec) ∧ w.cell? ⟨b, o + j * 3 + 2, none⟩ = some (.int .i64 (gC l j).r.cnt) := by
  obtain ⟨b, o, hA, hb, hc⟩ := Rd.at h (by intro e; have := rcs_len l; rw [e] at this; simp at this; omega)
  refine ⟨b, o, hA, hb, fun j hj => ?_⟩
  have g : ∀ k, k < 3 → ∀ v, (rcV (gC l j))[k]? = some v → w.cell? ⟨b, o + j * 3 + k, none⟩ = some v := by
    intro k hk v hv
    rw [Nat.add_assoc]
    exact hc _ _ ((rcs_get l j k hj hk).trans hv)
  exact ⟨g 0 (by decide) _ rfl, g 1 (by decide) _ rfl, g 2 (by decide) _ rfl⟩
/-- a shard's book -/
structure Bk where
  sh : Int
  ca : Int
  rows : List Ro
  op : List En
/-- a book as it lies -/
structure Bm (w : World) (A C : Option Addr) (rl : List Rc) (b : Bk) : Prop where
  r : Rd w w.heap.size A (rcs rl)
  e : rl.map Rc.r = b.rows
  n : ∀ i, i < rl.length → Ris w w.heap.size (gC rl i).A (gC rl i).r.ns
  o : Rd w w.heap.size C (ens b.op)
theorem Bm.below {w w' : World} {A C : Option Addr} {rl : List Rc} {b : Bk} (h : Bm w A C rl b) (hb : Below w.heap.size w w') : Bm w' A C rl b :=
  ⟨Rd.below' h.r hb hb.size, h.e, fun i hi => Rd.below' (h.n i hi) hb hb.size, Rd.below' h.o hb hb.size⟩
theorem Bm.len {w : World} {A C : Option Addr} {rl : List Rc} {b : Bk} (h : Bm w A C rl b) : rl.length = b.rows.length := by rw [← h.e]; simp
theorem gC_row {rl : List Rc} {rows : List Ro} (e : rl.map Rc.r = rows) {i : Nat} (hi : i < rl.length) : (gC rl i).r = gR rows i := by
  subst e
  simp [gC, gR, hi]
def bkA (A C : Option Addr) (c d : Nat) (b : Bk) : Value := .agg #[.int .i64 b.sh, .int .i64 b.ca, .slice A b.rows.length c, .slice C b.op.length d]
end Go.Proofs.Ytkmkaidhpbjbnaa.Bkp

/- A row of the call's own out of which a part is deleted: what it reads then, over any program. No condition. -/
namespace Go.Proofs.Ytkmkaidhpbjbnaa.Dlk
set_option maxRecDepth 100000
open Go.ChangeShapes Go.WideShapes Go.RowKit Mem
set_option linter.unusedVariables false
variable {P : Program}

theorem zeroCells_len (z : Array Value) (n : Nat) : (Builtin.zeroCells z n).toList.length = n * z.size := by simp [Builtin.zeroCells]
theorem zeroCells_one (z : Array Value) (n : Nat) (h : ∀ u ∈ z, u.oneCell' = true) (h0 : 0 < z.size) : ∀ u ∈ (Builtin.zeroCells z n).toList, u.oneCell' = true := by
  intro u hu
  simp only [Builtin.zeroCells, Array.toList_map, List.mem_map] at hu
  obtain ⟨i, _, rfl⟩ := hu
  have hm : i % z.size < z.size := Nat.mod_lt _ h0
  rw [getElem!_pos z (i % z.size) hm]
  exact h _ (Array.getElem_mem hm)
/-- clear(s) of elements of any size -/
theorem run_clear_any (w : World) (t e ty : TypeId) (z : Value) (ht : P.underlying t = some (.slice e)) (hv : ∀ w, (zeroValue e).run P w = .ok z w) (size : Nat) (hs : z.cells.size = size) (h0 : 0 < size) (h1 : ∀ u ∈ z.cells, u.oneCell' = true) (b o n c : Nat) (hn : 0 < n)
    (hc : ∀ j, j < n * size → (w.cell? ⟨b, o + j, none⟩).isSome = true) (hf : ∀ j, j < n * size → w.frozen? ⟨b, o + j, none⟩ = false) :
    (Builtin.clear_ #[t] ty #[.slice (some ⟨b, o, none⟩) n c]).run P w = .ok (.tuple #[]) (w.setCells b o (Builtin.zeroCells z.cells n).toList) := by
  have hl := zeroCells_len z.cells n
  rw [hs] at hl
  have hst := run_storeCells_cells (P := P) b o (Builtin.zeroCells z.cells n).toList 0 w (by rw [hl]; simpa using hc) (by rw [hl]; simpa using hf) (zeroCells_one _ _ h1 (by omega))
  simp only [Nat.add_zero] at hst
  obtain ⟨m, rfl⟩ : ∃ m, n = m + 1 := ⟨n - 1, by omega⟩
  simp [Builtin.clear_, run_underlying ht, hv, hst]

/-- a row of the call's own, open: all its cells, as far as its room -/
theorem own_room {w : World} {base : Nat} {e : TypeId} {size n cap g : Nat} {xs : List Value} (h : w.ownsRow base e size (.slice (some ⟨g, 0, none⟩) n cap) n xs) :
    base ≤ g ∧ g < w.heap.size ∧ n ≤ cap ∧ cap ≤ maxLen ∧ (∀ j, j < cap * size → (w.cell? ⟨g, j, none⟩).isSome = true ∧ w.frozen? ⟨g, j, none⟩ = false) ∧ (∀ j u, xs[j]? = some u → w.cell? ⟨g, j, none⟩ = some u) := by
  rcases h.2 with ⟨h', _⟩ | ⟨g', cap', cur, h', hb, hg, hnc, hcm, hcs, htake⟩
  · simp at h'
  · simp only [Value.slice.injEq, Option.some.injEq, Addr.mk.injEq, and_true, true_and] at h'
    obtain ⟨rfl, rfl⟩ := h'
    refine ⟨hb, (Array.getElem?_eq_some_iff.1 hg).1, hnc, hcm, fun j hj => ?_, fun j u hu => ?_⟩
    · rw [cell_of_row w g j cur e (0, 0) hg]
      exact ⟨by rw [Array.getElem?_eq_getElem (by omega)]; rfl, frozen_of_row w g j cur e hg⟩
    · rw [cell_of_row w g j cur e (0, 0) hg]
      rw [← htake] at hu
      rw [List.getElem?_take] at hu
      split at hu
      · simpa using hu
      · simp at hu
theorem grown_setCells {w w' : World} {g : Nat} (h : w.grownBy w' (some g)) : ∀ (vs : List Value) (o : Nat), w.grownBy (w'.setCells g o vs) (some g) := by
  intro vs
  induction vs generalizing w' with
  | nil => intro o; exact h
  | cons v r ih =>
    intro o
    refine ih (w' := w'.setCell ⟨g, o, none⟩ v) ⟨h.os, h.tape, h.output, by simpa [World.setCell] using h.size, fun k hk hne => ?_⟩ (o + 1)
    exact (heap_setCell_other w' ⟨g, o, none⟩ k v (fun e => hne (by simp [e]))).trans (h.block k hk hne)
theorem grown_refl (w : World) (r : Option Nat) : w.grownBy w r := ⟨rfl, rfl, rfl, Nat.le_refl _, fun _ _ _ => rfl⟩
theorem grown_drew {w w' : World} {r : Option Nat} (h : w.grownBy w' r) : w.grownBy w'.drew r := ⟨h.os, h.tape, h.output, h.size, h.block⟩
/-- what a row reads behind 'append(s[:i], s[j:]...)' and a clear of what is behind it -/
theorem del_reads {w : World} {g size i j n cap : Nat} {xs : List Value} {base : Nat} {e : TypeId} (h : w.ownsRow base e size (.slice (some ⟨g, 0, none⟩) n cap) n xs) (hij : i ≤ j) (hj : j ≤ n) (zs : List Value) :
    Rd ((w.drew.setCells g (i * size) (xs.drop (j * size))).setCells g ((i + (n - j)) * size) zs) ((w.drew.setCells g (i * size) (xs.drop (j * size))).setCells g ((i + (n - j)) * size) zs).heap.size (some ⟨g, 0, none⟩) (xs.take (i * size) ++ xs.drop (j * size)) := by
  obtain ⟨hb, hlt, hnc, hcm, hroom, hcell⟩ := own_room h
  have hlen : xs.length = n * size := h.1
  have l1 : (xs.drop (j * size)).length = (n - j) * size := by rw [List.length_drop, hlen, Nat.sub_mul]
  have hle : j * size ≤ n * size := Nat.mul_le_mul_right _ hj
  have hie : i * size ≤ j * size := Nat.mul_le_mul_right _ hij
  have hcap : n * size ≤ cap * size := Nat.mul_le_mul_right _ hnc
  have e1 : (i + (n - j)) * size = i * size + (n - j) * size := Nat.add_mul _ _ _
  have e2 : (n - j) * size = n * size - j * size := Nat.sub_mul _ _ _
  have gr : w.grownBy ((w.drew.setCells g (i * size) (xs.drop (j * size))).setCells g ((i + (n - j)) * size) zs) (some g) := grown_setCells (grown_setCells (grown_drew (grown_refl w _)) _ _) _ _
  refine .inr ⟨g, 0, rfl, by have := gr.size; omega, fun t v hv => ?_⟩
  have ht : t < i * size + (n - j) * size := by
    have := (List.getElem?_eq_some_iff.1 hv).1
    rw [List.length_append, l1, List.length_take] at this
    omega
  rw [Nat.zero_add, World.cell?_setCells_out g zs _ _ ⟨g, t, none⟩ (fun _ _ => Or.inl (by simp only []; omega))]
  by_cases h1 : t < i * size
  · rw [World.cell?_setCells_out g _ _ _ ⟨g, t, none⟩ (fun _ _ => Or.inl h1)]
    rw [List.getElem?_append_left (by rw [List.length_take]; omega), List.getElem?_take, if_pos h1] at hv
    exact hcell t v hv
  · obtain ⟨k, rfl⟩ : ∃ k, t = i * size + k := ⟨t - i * size, by omega⟩
    have hk : k < (xs.drop (j * size)).length := by omega
    have := World.cell?_setCells_in g (xs.drop (j * size)) (i * size) w.drew (fun q hq => by rw [l1] at hq; exact (hroom (i * size + q) (by omega)).1) k hk
    rw [this]
    rw [List.getElem?_append_right (by rw [List.length_take]; omega), List.length_take, show i * size + k - min (i * size) xs.length = k by omega] at hv
    rw [List.getElem?_eq_getElem hk] at hv
    exact hv
end Go.Proofs.Ytkmkaidhpbjbnaa.Dlk

/- The contracts of package credit: each call answers as the plain functions over lists say, and makes memory of its own alone. Condition: the State lies in memory, its numbers are of 64 bits. -/
namespace Go.Proofs.Ytkmkaidhpbjbnaa.Crd
set_option maxRecDepth 100000
open Go.ChangeShapes Go.WideShapes Go.ChangeAt Go.RowKit Mem Tre Ref3 Law3
set_option linter.unusedVariables false

theorem i64_info : (Try.prog.info? 2).map (fun i => (i.zero, i.size, i.bytes)) = some (some (.int .i64 0), 1, 8) := by kernel_rfl

/-- a row of the call's own, in blocks from base on -/
def OwnN (base : Nat) (w : World) (A : Option Addr) (c : Nat) (l : List (Int × Int)) : Prop := w.ownsRow base 99 2 (.slice A l.length c) l.length (nds l)
def OwnI (base : Nat) (w : World) (A : Option Addr) (c : Nat) (u : List Int) : Prop := w.ownsRow base 2 1 (.slice A u.length c) u.length (ints u)
def MadeOwnN (l : List (Int × Int)) (w : World) (e : Ending) (w' : World) : Prop := ∃ A c, e = .returned (.slice A l.length c) ∧ OwnN w.heap.size w' A c l ∧ Below w.heap.size w w'
def MadeOwnI (u : List Int) (w : World) (e : Ending) (w' : World) : Prop := ∃ A c, e = .returned (.slice A u.length c) ∧ OwnI w.heap.size w' A c u ∧ Below w.heap.size w w'

set_option maxHeartbeats 1000000 in
theorem cloneN_any (A : Option Addr) (c : Nat) (l : List (Int × Int)) (w : World) (hl : Hid (Nds w w.heap.size A l)) (hmax : (l.length : Int) ≤ 1000000) :
    Calls Try.prog 35 #[.slice A l.length c] w (MadeOwnN l w) := by
  obtain ⟨i0, hi, hz0, hz1, hz2⟩ := info_parts node_info
  have hq := fun (W : World) (n c : Nat) => Lib.run_eql_slice_nil (P := Try.prog) W 36 99 A n c 0 0 Try.underlying36
  cases A with
  | none =>
    have hl0 : l = [] := by
      rcases hl.out with h | ⟨b, o, h, _⟩
      · have := nds_len l; rw [h] at this; simp at this; exact List.eq_nil_of_length_eq_zero (by omega)
      · cases h
    subst hl0
    go_enter Try.func35, Try.ntmps35
    go_wp2_with fail
    go_ret
    exact ⟨none, 0, rfl, World.ownsRow_nil _ _ _ _, Below.refl _ _⟩
  | some ad =>
    have hl1 : Hid (Rd (w.alloc (.cells #[] 99)) w.heap.size (some ad) (nds l)) := Rd.below hl.out ((Below.refl _ _).alloc (Nat.le_refl _) _)
    have how : Hid ((w.alloc (.cells #[] 99)).ownsRow w.heap.size 99 2 (.slice (some ⟨w.heap.size, 0, none⟩) 0 0) 0 []) := own_empty (Blk.fresh w _ _) (Nat.le_refl _)
    have hb0 : Below w.heap.size w (w.alloc (.cells #[] 99)) := (Below.refl _ _).alloc (Nat.le_refl _) _
    go_enter Try.func35, Try.ntmps35
    go_wp2_with (at_builtin; go_loud (refine wpList_appR (nm := l.length) how hb0 hl1 (by simp) rfl _ _ _ rfl i0 (.agg #[.int .i64 0, .int .i64 0]) 16 Try.underlying36 hi hz0 hz1 hz2 rfl (by decide) rfl rfl (nds_len l) (nds_one l) (by unfold maxLen; omega) (by omega) (Nat.le_refl _) (by simp) (by simp) ?_); intro A1 c1 w1 hown1 hbel1 hsz1)
    go_ret
    exact ⟨A1, c1, rfl, hown1, hbel1⟩

set_option maxHeartbeats 1000000 in
theorem cloneI_any (A : Option Addr) (c : Nat) (l : List Int) (w : World) (hl : Hid (Ris w w.heap.size A l)) (hmax : (l.length : Int) ≤ 1000000) :
    Calls Try.prog 36 #[.slice A l.length c] w (MadeOwnI l w) := by
  obtain ⟨i0, hi, hz0, hz1, hz2⟩ := info_parts i64_info
  have hq := fun (W : World) (n c : Nat) => Lib.run_eql_slice_nil (P := Try.prog) W 60 2 A n c 0 0 Try.underlying60
  cases A with
  | none =>
    have hl0 : l = [] := by
      rcases hl.out with h | ⟨b, o, h, _⟩
      · have := ints_len l; rw [h] at this; simp at this; exact List.eq_nil_of_length_eq_zero (by omega)
      · cases h
    subst hl0
    go_enter Try.func36, Try.ntmps36
    go_wp2_with fail
    go_ret
    exact ⟨none, 0, rfl, World.ownsRow_nil _ _ _ _, Below.refl _ _⟩
  | some ad =>
    have hl1 : Hid (Rd (w.alloc (.cells #[] 2)) w.heap.size (some ad) (ints l)) := Rd.below hl.out ((Below.refl _ _).alloc (Nat.le_refl _) _)
    have how : Hid ((w.alloc (.cells #[] 2)).ownsRow w.heap.size 2 1 (.slice (some ⟨w.heap.size, 0, none⟩) 0 0) 0 []) := own_empty (Blk.fresh w _ _) (Nat.le_refl _)
    have hb0 : Below w.heap.size w (w.alloc (.cells #[] 2)) := (Below.refl _ _).alloc (Nat.le_refl _) _
    go_enter Try.func36, Try.ntmps36
    go_wp2_with (at_builtin; go_loud (refine wpList_appR (nm := l.length) how hb0 hl1 (by simp) rfl _ _ _ rfl i0 (.int .i64 0) 8 Try.underlying60 hi hz0 hz1 hz2 rfl (by decide) rfl rfl (by rw [ints_len]; omega) (ints_one l) (by unfold maxLen; omega) (by omega) (Nat.le_refl _) (by simp) (by simp) ?_); intro A1 c1 w1 hown1 hbel1 hsz1)
    go_ret
    exact ⟨A1, c1, rfl, hown1, hbel1⟩
end Go.Proofs.Ytkmkaidhpbjbnaa.Crd

/- Contracts of slices.Clone and slices.Delete at book's rows, entries and numbers: memory of the call's own. Condition: what is cloned lies in memory and is not long; what is deleted in is a row of the caller's own. -/
namespace Go.Proofs.Ytkmkaidhpbjbnaa.Bcl
set_option maxRecDepth 100000
open Go.ChangeShapes Go.WideShapes Go.ChangeAt Go.RowKit Mem Tre Ref3 Law3 Crd Bkp Dlk
set_option linter.unusedVariables false
theorem ints_len1 (l : List Int) : (ints l).length = l.length * 1 := by rw [ints_len]; omega
/-- a row of the caller's own made at or behind block base -/
def MadeOw (te : TypeId) (size : Nat) (n : Nat) (xs : List Value) (w : World) (e : Ending) (w' : World) : Prop :=
  ∃ A c, e = .returned (.slice A n c) ∧ w'.ownsRow w.heap.size te size (.slice A n c) n xs ∧ Below w.heap.size w w'
theorem infoR : (Try.prog.info? 138).map (fun i => (i.zero, i.size, i.bytes)) = some (some (.agg #[.slice none 0 0, .int .i64 0, .int .i64 0]), 3, 40) := by kernel_rfl
set_option maxHeartbeats 1000000 in
theorem cloneR (A : Option Addr) (n c : Nat) (l : List Rc) (w : World) (hn : Hid (n = l.length)) (hl : Hid (Rd w w.heap.size A (rcs l))) (hmax : (n : Int) ≤ 1000000) :
    Calls Try.prog 62 #[.slice A n c] w (MadeOw 138 3 n (rcs l) w) := by
  obtain ⟨i0, hi, hz0, hz1, hz2⟩ := info_parts infoR
  have hq := fun (W : World) (n c : Nat) => Lib.run_eql_slice_nil (P := Try.prog) W 55 138 A n c 0 0 Try.underlying55
  have hln : Hid ((rcs l).length = n * 3) := by show _ = _; rw [hn.out]; exact rcs_len l
  cases A with
  | none =>
    have hl0 : rcs l = [] := by
      rcases hl.out with h | ⟨b, o, h, _⟩
      · exact h
      · cases h
    have hn0 : n = 0 := by have := hln.out; rw [hl0] at this; simp at this; omega
    have HL := Lib.hid hl0
    clear hn hln hl0
    subst hn0
    go_enter Try.func62, Try.ntmps62
    go_wp2_with fail
    go_ret
    rw [HL.out]
    exact ⟨none, 0, rfl, World.ownsRow_nil _ _ _ _, Below.refl _ _⟩
  | some ad =>
    have hl1 : Hid (Rd (w.alloc (.cells #[] 138)) w.heap.size (some ad) (rcs l)) := Rd.below hl.out ((Below.refl _ _).alloc (Nat.le_refl _) _)
    have how : Hid ((w.alloc (.cells #[] 138)).ownsRow w.heap.size 138 3 (.slice (some ⟨w.heap.size, 0, none⟩) 0 0) 0 []) := own_empty (Blk.fresh w _ _) (Nat.le_refl _)
    have hb0 : Below w.heap.size w (w.alloc (.cells #[] 138)) := (Below.refl _ _).alloc (Nat.le_refl _) _
    go_enter Try.func62, Try.ntmps62
    go_wp2_with (at_builtin; go_loud (refine wpList_appR (nm := n) how hb0 hl1 (by simp) rfl _ _ _ rfl i0 (.agg #[.slice none 0 0, .int .i64 0, .int .i64 0]) 40 Try.underlying55 hi hz0 hz1 hz2 rfl (by decide) rfl rfl hln.out (rcs_one l) (by unfold maxLen; omega) (by omega) (Nat.le_refl _) (by simp) (by simp) ?_); intro A1 c1 w1 hown1 hbel1 hsz1)
    go_ret
    exact ⟨A1, c1, rfl, hown1, hbel1⟩
theorem infoE : (Try.prog.info? 128).map (fun i => (i.zero, i.size, i.bytes)) = some (some (.agg #[.int .i64 0, .int .i64 0, .int .i64 0, .bool false, .int .i64 0, .int .i64 0, .int .i64 0, .int .i64 0, .int .i64 0, .int .i64 0, .int .i64 0]), 11, 88) := by kernel_rfl
set_option maxHeartbeats 1000000 in
theorem cloneE (A : Option Addr) (n c : Nat) (l : List En) (w : World) (hn : Hid (n = l.length)) (hl : Hid (Rd w w.heap.size A (ens l))) (hmax : (n : Int) ≤ 1000000) :
    Calls Try.prog 61 #[.slice A n c] w (MadeOw 128 11 n (ens l) w) := by
  obtain ⟨i0, hi, hz0, hz1, hz2⟩ := info_parts infoE
  have hq := fun (W : World) (n c : Nat) => Lib.run_eql_slice_nil (P := Try.prog) W 56 128 A n c 0 0 Try.underlying56
  have hln : Hid ((ens l).length = n * 11) := by show _ = _; rw [hn.out]; exact ens_len l
  cases A with
  | none =>
    have hl0 : ens l = [] := by
      rcases hl.out with h | ⟨b, o, h, _⟩
      · exact h
      · cases h
    have hn0 : n = 0 := by have := hln.out; rw [hl0] at this; simp at this; omega
    have HL := Lib.hid hl0
    clear hn hln hl0
    subst hn0
    go_enter Try.func61, Try.ntmps61
    go_wp2_with fail
    go_ret
    rw [HL.out]
    exact ⟨none, 0, rfl, World.ownsRow_nil _ _ _ _, Below.refl _ _⟩
  | some ad =>
    have hl1 : Hid (Rd (w.alloc (.cells #[] 128)) w.heap.size (some ad) (ens l)) := Rd.below hl.out ((Below.refl _ _).alloc (Nat.le_refl _) _)
    have how : Hid ((w.alloc (.cells #[] 128)).ownsRow w.heap.size 128 11 (.slice (some ⟨w.heap.size, 0, none⟩) 0 0) 0 []) := own_empty (Blk.fresh w _ _) (Nat.le_refl _)
    have hb0 : Below w.heap.size w (w.alloc (.cells #[] 128)) := (Below.refl _ _).alloc (Nat.le_refl _) _
    go_enter Try.func61, Try.ntmps61
    go_wp2_with (at_builtin; go_loud (refine wpList_appR (nm := n) how hb0 hl1 (by simp) rfl _ _ _ rfl i0 (.agg #[.int .i64 0, .int .i64 0, .int .i64 0, .bool false, .int .i64 0, .int .i64 0, .int .i64 0, .int .i64 0, .int .i64 0, .int .i64 0, .int .i64 0]) 88 Try.underlying56 hi hz0 hz1 hz2 rfl (by decide) rfl rfl hln.out (ens_one l) (by unfold maxLen; omega) (by omega) (Nat.le_refl _) (by simp) (by simp) ?_); intro A1 c1 w1 hown1 hbel1 hsz1)
    go_ret
    exact ⟨A1, c1, rfl, hown1, hbel1⟩
theorem infoI : (Try.prog.info? 2).map (fun i => (i.zero, i.size, i.bytes)) = some (some (.int .i64 0), 1, 8) := by kernel_rfl
set_option maxHeartbeats 1000000 in
theorem cloneI (A : Option Addr) (n c : Nat) (l : List Int) (w : World) (hn : Hid (n = l.length)) (hl : Hid (Rd w w.heap.size A (ints l))) (hmax : (n : Int) ≤ 1000000) :
    Calls Try.prog 36 #[.slice A n c] w (MadeOw 2 1 n (ints l) w) := by
  obtain ⟨i0, hi, hz0, hz1, hz2⟩ := info_parts infoI
  have hq := fun (W : World) (n c : Nat) => Lib.run_eql_slice_nil (P := Try.prog) W 60 2 A n c 0 0 Try.underlying60
  have hln : Hid ((ints l).length = n * 1) := by show _ = _; rw [hn.out]; exact ints_len1 l
  cases A with
  | none =>
    have hl0 : ints l = [] := by
      rcases hl.out with h | ⟨b, o, h, _⟩
      · exact h
      · cases h
    have hn0 : n = 0 := by have := hln.out; rw [hl0] at this; simp at this; omega
    have HL := Lib.hid hl0
    clear hn hln hl0
    subst hn0
    go_enter Try.func36, Try.ntmps36
    go_wp2_with fail
    go_ret
    rw [HL.out]
    exact ⟨none, 0, rfl, World.ownsRow_nil _ _ _ _, Below.refl _ _⟩
  | some ad =>
    have hl1 : Hid (Rd (w.alloc (.cells #[] 2)) w.heap.size (some ad) (ints l)) := Rd.below hl.out ((Below.refl _ _).alloc (Nat.le_refl _) _)
    have how : Hid ((w.alloc (.cells #[] 2)).ownsRow w.heap.size 2 1 (.slice (some ⟨w.heap.size, 0, none⟩) 0 0) 0 []) := own_empty (Blk.fresh w _ _) (Nat.le_refl _)
    have hb0 : Below w.heap.size w (w.alloc (.cells #[] 2)) := (Below.refl _ _).alloc (Nat.le_refl _) _
    go_enter Try.func36, Try.ntmps36
    go_wp2_with (at_builtin; go_loud (refine wpList_appR (nm := n) how hb0 hl1 (by simp) rfl _ _ _ rfl i0 (.int .i64 0) 8 Try.underlying60 hi hz0 hz1 hz2 rfl (by decide) rfl rfl hln.out (ints_one l) (by unfold maxLen; omega) (by omega) (Nat.le_refl _) (by simp) (by simp) ?_); intro A1 c1 w1 hown1 hbel1 hsz1)
    go_ret
    exact ⟨A1, c1, rfl, hown1, hbel1⟩
set_option maxHeartbeats 4000000 in
theorem deleteI (g n cap i j : Nat) (xs : List Value) (base : Nat) (w : World) (how : Hid (w.ownsRow base 2 1 (.slice (some ⟨g, 0, none⟩) n cap) n xs)) (h1c : Hid (∀ u ∈ xs, u.oneCell' = true)) (hij : i < j) (hj : j ≤ n) (hcap : (cap : Int) ≤ 9223372036854775807) :
    Calls Try.prog 89 #[.slice (some ⟨g, 0, none⟩) n cap, .int .i64 i, .int .i64 j] w (fun e w' => e = .returned (.slice (some ⟨g, 0, none⟩) (i + (n - j)) cap) ∧ Rd w' w'.heap.size (some ⟨g, 0, none⟩) (xs.take (i * 1) ++ xs.drop (j * 1)) ∧ w.grownBy w' (some g)) := by
  obtain ⟨i0, hi, hz0, hz1, hz2⟩ := info_parts infoI
  obtain ⟨hb, hlt, hnc, hcm, hroom, hcell⟩ := own_room how.out
  have hxl : Hid (xs.length = n * 1) := how.out.1
  obtain ⟨news, hnews⟩ : ∃ news, news = xs.drop (j * 1) := ⟨_, rfl⟩
  have hlen : Hid (news.length = (n - j) * 1) := by show _ = _; rw [hnews, List.length_drop, hxl.out]; omega
  obtain ⟨A, hA, hsrc⟩ : ∃ A : Addr, (if cap = j then some (⟨g, 0, none⟩ : Addr) else some ⟨g, j, none⟩) = some A ∧ Hid (∀ t u, news[t]? = some u → w.drew.cell? (A.add t) = some u) := by
    by_cases h : cap = j
    · refine ⟨⟨g, 0, none⟩, by simp [h], fun t u hu => ?_⟩
      have h0 : news.length = 0 := by rw [hlen.out]; omega
      rw [List.length_eq_zero_iff.1 h0] at hu
      simp at hu
    · refine ⟨⟨g, j, none⟩, by simp [h], fun t u hu => ?_⟩
      rw [hnews, List.getElem?_drop] at hu
      rw [Addr.add_lit]
      exact hcell _ u (by first | exact hu | simpa using hu)
  have s2 : Hid (∀ u ∈ news, u.oneCell' = true) := by
    intro u hu
    rw [hnews] at hu
    exact h1c.out u (List.mem_of_mem_drop hu)
  have s3 : Hid (∀ t, t < news.length → (w.drew.cell? ⟨g, 0 + i * 1 + t, none⟩).isSome = true ∧ w.drew.frozen? ⟨g, 0 + i * 1 + t, none⟩ = false) := by
    intro t ht
    rw [hlen.out] at ht
    rw [Nat.zero_add]
    exact hroom (i * 1 + t) (by omega)
  obtain ⟨W1, hW1⟩ : ∃ W1, W1 = w.drew.setCells g (0 + i * 1) news := ⟨_, rfl⟩
  have gr1 : w.grownBy W1 (some g) := by rw [hW1]; exact grown_setCells (grown_drew (grown_refl w _)) _ _
  have hroom1 : ∀ t, t < cap * 1 → (W1.cell? ⟨g, t, none⟩).isSome = true ∧ W1.frozen? ⟨g, t, none⟩ = false := by
    intro t ht
    rw [hW1]
    exact ⟨World.isSome_setCells g _ _ _ _ (hroom t ht).1, by rw [World.frozen?_setCells]; exact (hroom t ht).2⟩
  obtain ⟨zs, hzs⟩ : ∃ zs, zs = (Builtin.zeroCells (Value.cells (.int .i64 0)) (n - (i + (n - j)))).toList := ⟨_, rfl⟩
  have hcl : ∀ ty, (Builtin.clear_ #[60] ty #[.slice (some ⟨g, (i + (n - j)), none⟩) (n - (i + (n - j))) (cap - (i + (n - j)))]).run Try.prog W1 = .ok (.tuple #[]) (W1.setCells g (i + (n - j)) zs) := by
    intro ty
    rw [hzs]
    exact run_clear_any W1 _ _ ty _ Try.underlying60 Try.zeroValue2 1 rfl (by decide) (by simp [Value.cells, Value.oneCell']) g _ _ _ (by omega) (fun t ht => (hroom1 ((i + (n - j)) + t) (by omega)).1) (fun t ht => (hroom1 ((i + (n - j)) + t) (by omega)).2)
  have hfin : Hid (Rd (W1.setCells g (i + (n - j)) zs) (W1.setCells g (i + (n - j)) zs).heap.size (some ⟨g, 0, none⟩) (xs.take (i * 1) ++ xs.drop (j * 1)) ∧ w.grownBy (W1.setCells g (i + (n - j)) zs) (some g)) := by
    refine ⟨?_, grown_setCells gr1 _ _⟩
    rw [hW1, hnews, Nat.zero_add]
    have h9 := del_reads (i := i) (j := j) how.out (by omega) hj zs; simpa only [Nat.mul_one] using h9
  have hW : Hid (W1 = w.drew.setCells g (0 + i * 1) news) := hW1
  have hic : i ≤ cap := by omega
  have hjc : j ≤ cap := by omega
  have hne : i ≠ j := by omega
  clear hW1 hroom hroom1 gr1 hcell hnews hzs how h1c
  go_enter Try.func89, Try.ntmps89
  go_wp2_with fail
  go_region_law (refine step_append_room rfl (.tmp 22) (.tmp 25) 60 rfl 2 i0 1 Try.underlying60 hi hz1 g 0 i cap (by simp [Act.eval, Act.put]) A (n - j) (cap - j) news (by simp [Act.eval, Act.put]) hlen.out hsrc.out s2.out (by omega) s3.out ?_; rw [← hW.out])
  go_wp2_with fail
  go_ret
  exact ⟨rfl, hfin.out⟩
set_option maxHeartbeats 4000000 in
theorem deleteE (g n cap i j : Nat) (xs : List Value) (base : Nat) (w : World) (how : Hid (w.ownsRow base 128 11 (.slice (some ⟨g, 0, none⟩) n cap) n xs)) (h1c : Hid (∀ u ∈ xs, u.oneCell' = true)) (hij : i < j) (hj : j ≤ n) (hcap : (cap : Int) ≤ 9223372036854775807) :
    Calls Try.prog 82 #[.slice (some ⟨g, 0, none⟩) n cap, .int .i64 i, .int .i64 j] w (fun e w' => e = .returned (.slice (some ⟨g, 0, none⟩) (i + (n - j)) cap) ∧ Rd w' w'.heap.size (some ⟨g, 0, none⟩) (xs.take (i * 11) ++ xs.drop (j * 11)) ∧ w.grownBy w' (some g)) := by
  obtain ⟨i0, hi, hz0, hz1, hz2⟩ := info_parts infoE
  obtain ⟨hb, hlt, hnc, hcm, hroom, hcell⟩ := own_room how.out
  have hxl : Hid (xs.length = n * 11) := how.out.1
  obtain ⟨news, hnews⟩ : ∃ news, news = xs.drop (j * 11) := ⟨_, rfl⟩
  have hlen : Hid (news.length = (n - j) * 11) := by show _ = _; rw [hnews, List.length_drop, hxl.out]; omega
  obtain ⟨A, hA, hsrc⟩ : ∃ A : Addr, (if cap = j then some (⟨g, 0, none⟩ : Addr) else some ⟨g, j * 11, none⟩) = some A ∧ Hid (∀ t u, news[t]? = some u → w.drew.cell? (A.add t) = some u) := by
    by_cases h : cap = j
    · refine ⟨⟨g, 0, none⟩, by simp [h], fun t u hu => ?_⟩
      have h0 : news.length = 0 := by rw [hlen.out]; omega
      rw [List.length_eq_zero_iff.1 h0] at hu
      simp at hu
    · refine ⟨⟨g, j * 11, none⟩, by simp [h], fun t u hu => ?_⟩
      rw [hnews, List.getElem?_drop] at hu
      rw [Addr.add_lit]
      exact hcell _ u (by first | exact hu | simpa using hu)
  have s2 : Hid (∀ u ∈ news, u.oneCell' = true) := by
    intro u hu
    rw [hnews] at hu
    exact h1c.out u (List.mem_of_mem_drop hu)
  have s3 : Hid (∀ t, t < news.length → (w.drew.cell? ⟨g, 0 + i * 11 + t, none⟩).isSome = true ∧ w.drew.frozen? ⟨g, 0 + i * 11 + t, none⟩ = false) := by
    intro t ht
    rw [hlen.out] at ht
    rw [Nat.zero_add]
    exact hroom (i * 11 + t) (by omega)
  obtain ⟨W1, hW1⟩ : ∃ W1, W1 = w.drew.setCells g (0 + i * 11) news := ⟨_, rfl⟩
  have gr1 : w.grownBy W1 (some g) := by rw [hW1]; exact grown_setCells (grown_drew (grown_refl w _)) _ _
  have hroom1 : ∀ t, t < cap * 11 → (W1.cell? ⟨g, t, none⟩).isSome = true ∧ W1.frozen? ⟨g, t, none⟩ = false := by
    intro t ht
    rw [hW1]
    exact ⟨World.isSome_setCells g _ _ _ _ (hroom t ht).1, by rw [World.frozen?_setCells]; exact (hroom t ht).2⟩
  obtain ⟨zs, hzs⟩ : ∃ zs, zs = (Builtin.zeroCells (Value.cells (.agg #[.int .i64 0, .int .i64 0, .int .i64 0, .bool false, .int .i64 0, .int .i64 0, .int .i64 0, .int .i64 0, .int .i64 0, .int .i64 0, .int .i64 0])) (n - (i + (n - j)))).toList := ⟨_, rfl⟩
  have hcl : ∀ ty, (Builtin.clear_ #[56] ty #[.slice (some ⟨g, ((i + (n - j)) * 11), none⟩) (n - (i + (n - j))) (cap - (i + (n - j)))]).run Try.prog W1 = .ok (.tuple #[]) (W1.setCells g ((i + (n - j)) * 11) zs) := by
    intro ty
    rw [hzs]
    exact run_clear_any W1 _ _ ty _ Try.underlying56 Try.zeroValue128 11 rfl (by decide) (by simp [Value.cells, Value.oneCell']) g _ _ _ (by omega) (fun t ht => (hroom1 (((i + (n - j)) * 11) + t) (by omega)).1) (fun t ht => (hroom1 (((i + (n - j)) * 11) + t) (by omega)).2)
  have hfin : Hid (Rd (W1.setCells g ((i + (n - j)) * 11) zs) (W1.setCells g ((i + (n - j)) * 11) zs).heap.size (some ⟨g, 0, none⟩) (xs.take (i * 11) ++ xs.drop (j * 11)) ∧ w.grownBy (W1.setCells g ((i + (n - j)) * 11) zs) (some g)) := by
    refine ⟨?_, grown_setCells gr1 _ _⟩
    rw [hW1, hnews, Nat.zero_add]
    exact del_reads (i := i) (j := j) how.out (by omega) hj zs
  have hW : Hid (W1 = w.drew.setCells g (0 + i * 11) news) := hW1
  have hic : i ≤ cap := by omega
  have hjc : j ≤ cap := by omega
  have hne : i ≠ j := by omega
  clear hW1 hroom hroom1 gr1 hcell hnews hzs how h1c
  go_enter Try.func82, Try.ntmps82
  go_wp2_with fail
  go_region_law (refine step_append_room rfl (.tmp 22) (.tmp 25) 56 rfl 128 i0 11 Try.underlying56 hi hz1 g 0 i cap (by simp [Act.eval, Act.put]) A (n - j) (cap - j) news (by simp [Act.eval, Act.put]) hlen.out hsrc.out s2.out (by omega) s3.out ?_; rw [← hW.out])
  go_wp2_with fail
  go_ret
  exact ⟨rfl, hfin.out⟩
end Go.Proofs.Ytkmkaidhpbjbnaa.Bcl

/- What book's calls answer, as plain functions on books. No program, no condition. -/
namespace Go.Proofs.Ytkmkaidhpbjbnaa.Bks
set_option maxRecDepth 100000
open Go.ChangeShapes Go.WideShapes Go.RowKit Mem Tre Ref3 Law3 Bkp
set_option linter.unusedVariables false

def inQ (n : Nat) (k : Int) : Bool := decide (0 ≤ k ∧ k < n)
theorem inQ_t {n : Nat} {k : Int} (h : 0 ≤ k) (h' : k < n) : inQ n k = true := by unfold inQ; simp [h, h']
theorem inQ_f {n : Nat} {k : Int} (h : k < 0 ∨ n ≤ k) : inQ n k = false := by unfold inQ; simp; omega
theorem inQ_of {n : Nat} {k : Int} (h : inQ n k = true) : 0 ≤ k ∧ k < n := by unfold inQ at h; simpa using h
/-- the place of an open order; as many as there are: there is none -/
def posE : List En → Int → Nat
  | [], _ => 0
  | e :: l, id => if e.id = id then 0 else posE l id + 1
theorem posE_at (l : List En) (id : Int) (i : Nat) (h : ∀ j, j < i → (gE l j).id ≠ id) (hi : i < l.length) (he : (gE l i).id = id) : posE l id = i := by
  induction l generalizing i with
  | nil => simp at hi
  | cons e l ih =>
    unfold posE
    cases i with
    | zero => rw [if_pos (by simpa [gE] using he)]
    | succ i =>
      rw [if_neg (by have := h 0 (by omega); simpa [gE] using this)]
      rw [ih i (fun j hj => by have := h (j + 1) (by omega); simpa [gE] using this) (by simpa using hi) (by simpa [gE] using he)]
theorem posE_none (l : List En) (id : Int) (h : ∀ j, j < l.length → (gE l j).id ≠ id) : posE l id = l.length := by
  induction l with
  | nil => rfl
  | cons e l ih =>
    unfold posE
    rw [if_neg (by have := h 0 (by simp); simpa [gE] using this)]
    rw [ih (fun j hj => by have := h (j + 1) (by simpa using hj); simpa [gE] using this)]
    simp
def placeF (l : List En) (id : Int) : Int := if posE l id < l.length then (posE l id : Int) else -1
theorem placeF_t {l : List En} {id : Int} (h : posE l id < l.length) : placeF l id = posE l id := by unfold placeF; rw [if_pos h]
theorem placeF_f {l : List En} {id : Int} (h : ¬ posE l id < l.length) : placeF l id = -1 := by unfold placeF; rw [if_neg h]
/-- what is wrong with an order here -/
def lookF (ra ta : Int) (b : Bk) (o : Od) : Int :=
  if inQ b.rows.length o.a = true then
    (if (gR b.rows o.a.toNat).ns.contains o.n = true then 9
     else if o.t < (gR b.rows o.a.toNat).sec then 10
     else if o.t = (gR b.rows o.a.toNat).sec ∧ ra ≤ (gR b.rows o.a.toNat).cnt then 10
     else if ta ≤ b.op.length then 11 else 0)
  else 3
/-- a row behind an order -/
def usedF (r : Ro) (n t wi : Int) : Ro :=
  ⟨(r.ns ++ [n]).drop (r.ns.length + 1 - (max wi 0).toNat), t, (if r.sec = t then r.cnt else 0) + 1⟩
def addF (sk wi : Int) (b : Bk) (o : Od) (ep : Int) : Bk :=
  ⟨b.sh, b.ca + 1, b.rows.set o.a.toNat (usedF (gR b.rows o.a.toNat) o.n o.t wi), b.op ++ [⟨b.sh + sk * b.ca, o, o.q, 1, ep⟩]⟩
def delE (l : List En) (i : Nat) : List En := l.take i ++ l.drop (i + 1)
def setL (e : En) (x : Int) : En := ⟨e.id, e.o, x, e.st, e.ep⟩
def setS (e : En) (x : Int) : En := ⟨e.id, e.o, e.lf, x, e.ep⟩
def fillF (b : Bk) (id q : Int) : Bk × Int :=
  if q < 1 then (b, 1)
  else if posE b.op id < b.op.length then
    (if (gE b.op (posE b.op id)).lf < q then (b, 17)
     else if (gE b.op (posE b.op id)).lf - q = 0 then (⟨b.sh, b.ca, b.rows, delE b.op (posE b.op id)⟩, 0)
     else (⟨b.sh, b.ca, b.rows, b.op.set (posE b.op id) (setL (gE b.op (posE b.op id)) ((gE b.op (posE b.op id)).lf - q))⟩, 0))
  else (b, 15)
def ackF (b : Bk) (id : Int) : Bk × Int :=
  if posE b.op id < b.op.length then
    (if (gE b.op (posE b.op id)).st = 1 then (b, 16) else (⟨b.sh, b.ca, b.rows, delE b.op (posE b.op id)⟩, 0))
  else (b, 15)
def cancelF (b : Bk) (id : Int) : Bk × Int :=
  if posE b.op id < b.op.length then
    (if (gE b.op (posE b.op id)).st = 2 then (b, 16) else (⟨b.sh, b.ca, b.rows, b.op.set (posE b.op id) (setS (gE b.op (posE b.op id)) 2)⟩, 0))
  else (b, 15)
/-- a book that is not long, its numbers of 64 bits -/
structure FewB (b : Bk) : Prop where
  rl : b.rows.length ≤ 1000
  ol : b.op.length ≤ 1000
  nl : ∀ i, i < b.rows.length → (gR b.rows i).ns.length ≤ 1000
  sh : 0 ≤ b.sh ∧ b.sh ≤ 1000
  ca : 0 ≤ b.ca ∧ b.ca ≤ 1000000000
  cnt : ∀ i, i < b.rows.length → 0 ≤ (gR b.rows i).cnt ∧ (gR b.rows i).cnt ≤ 1000000000
  sec : ∀ i, i < b.rows.length → inI (gR b.rows i).sec
end Go.Proofs.Ytkmkaidhpbjbnaa.Bks

/- Structs in memory: a store of a whole struct, told by blocks. Over any program, no condition. -/
namespace Go.Proofs.Ytkmkaidhpbjbnaa.Stk
set_option maxRecDepth 100000
open Go.ChangeShapes Go.WideShapes Go.RowKit Mem
theorem blk_st {w : World} {g : Nat} {te : TypeId} {cs : Array Value} (h : Blk w g te cs) (i : Nat) (u : Value) : Blk (w.setCell ⟨g, i, none⟩ u) g te (cs.setIfInBounds i u) :=
  heap_setCell_same w g i cs te u h
theorem far_st {w : World} {g g' : Nat} {te : TypeId} {cs : Array Value} (h : Blk w g te cs) (hne : g ≠ g') {i : Nat} (u : Value) : Blk (w.setCell ⟨g', i, none⟩ u) g te cs :=
  (Below.heap_setCell w ⟨g', i, none⟩ u g hne).trans h
/-- a struct of 2 cells is stored -/
def st2 (W : World) (g : Nat) (v0 v1 : Value) : World := ((W.setCell ⟨g, 0, none⟩ v0).setCell ⟨g, 1, none⟩ v1)
theorem st2_blk {W : World} {g : Nat} {te : TypeId} {u0 u1 v0 v1 : Value} (hk : Blk W g te #[u0, u1]) : Blk (st2 W g v0 v1) g te #[v0, v1] := by
  have k0 : Blk (W.setCell ⟨g, 0, none⟩ v0) g te #[v0, u1] := blk_st hk 0 v0
  have k1 : Blk ((W.setCell ⟨g, 0, none⟩ v0).setCell ⟨g, 1, none⟩ v1) g te #[v0, v1] := blk_st k0 1 v1
  exact k1
theorem st2_below {B : Nat} {w0 W : World} {g : Nat} {v0 v1 : Value} (hb : Below B w0 W) (hg : B ≤ g) : Below B w0 (st2 W g v0 v1) := ((hb.setCell (p := ⟨g, 0, none⟩) hg v0).setCell (p := ⟨g, 1, none⟩) hg v1)
/-- a struct of 3 cells is stored -/
def st3 (W : World) (g : Nat) (v0 v1 v2 : Value) : World := (((W.setCell ⟨g, 0, none⟩ v0).setCell ⟨g, 1, none⟩ v1).setCell ⟨g, 2, none⟩ v2)
theorem st3_blk {W : World} {g : Nat} {te : TypeId} {u0 u1 u2 v0 v1 v2 : Value} (hk : Blk W g te #[u0, u1, u2]) : Blk (st3 W g v0 v1 v2) g te #[v0, v1, v2] := by
  have k0 : Blk (W.setCell ⟨g, 0, none⟩ v0) g te #[v0, u1, u2] := blk_st hk 0 v0
  have k1 : Blk ((W.setCell ⟨g, 0, none⟩ v0).setCell ⟨g, 1, none⟩ v1) g te #[v0, v1, u2] := blk_st k0 1 v1
  have k2 : Blk (((W.setCell ⟨g, 0, none⟩ v0).setCell ⟨g, 1, none⟩ v1).setCell ⟨g, 2, none⟩ v2) g te #[v0, v1, v2] := blk_st k1 2 v2
  exact k2
theorem z3_of {W : World} {g : Nat} {te : TypeId} {v0 v1 v2 : Value} (h : Blk W g te #[v0, v1, v2]) : W.cell? ⟨g, 0, none⟩ = some v0 ∧ W.cell? ⟨g, 1, none⟩ = some v1 ∧ W.cell? ⟨g, 2, none⟩ = some v2 ∧ W.frozen? ⟨g, 0, none⟩ = false ∧ W.frozen? ⟨g, 1, none⟩ = false ∧ W.frozen? ⟨g, 2, none⟩ = false := ⟨h.cell 0, h.cell 1, h.cell 2, h.thaw 0, h.thaw 1, h.thaw 2⟩
theorem q3_of {W : World} {g : Nat} {te : TypeId} {v0 v1 v2 : Value} (h : Blk W g te #[v0, v1, v2]) : W.cell? ⟨g, 0, none⟩ = some v0 ∧ W.cell? ⟨g, 1, none⟩ = some v1 ∧ W.cell? ⟨g, 2, none⟩ = some v2 := ⟨h.cell 0, h.cell 1, h.cell 2⟩
/-- a struct of 4 cells is stored -/
def st4 (W : World) (g : Nat) (v0 v1 v2 v3 : Value) : World := ((((W.setCell ⟨g, 0, none⟩ v0).setCell ⟨g, 1, none⟩ v1).setCell ⟨g, 2, none⟩ v2).setCell ⟨g, 3, none⟩ v3)
theorem st4_blk {W : World} {g : Nat} {te : TypeId} {u0 u1 u2 u3 v0 v1 v2 v3 : Value} (hk : Blk W g te #[u0, u1, u2, u3]) : Blk (st4 W g v0 v1 v2 v3) g te #[v0, v1, v2, v3] := by
  have k0 : Blk (W.setCell ⟨g, 0, none⟩ v0) g te #[v0, u1, u2, u3] := blk_st hk 0 v0
  have k1 : Blk ((W.setCell ⟨g, 0, none⟩ v0).setCell ⟨g, 1, none⟩ v1) g te #[v0, v1, u2, u3] := blk_st k0 1 v1
  have k2 : Blk (((W.setCell ⟨g, 0, none⟩ v0).setCell ⟨g, 1, none⟩ v1).setCell ⟨g, 2, none⟩ v2) g te #[v0, v1, v2, u3] := blk_st k1 2 v2
  have k3 : Blk ((((W.setCell ⟨g, 0, none⟩ v0).setCell ⟨g, 1, none⟩ v1).setCell ⟨g, 2, none⟩ v2).setCell ⟨g, 3, none⟩ v3) g te #[v0, v1, v2, v3] := blk_st k2 3 v3
  exact k3
theorem st4_below {B : Nat} {w0 W : World} {g : Nat} {v0 v1 v2 v3 : Value} (hb : Below B w0 W) (hg : B ≤ g) : Below B w0 (st4 W g v0 v1 v2 v3) := ((((hb.setCell (p := ⟨g, 0, none⟩) hg v0).setCell (p := ⟨g, 1, none⟩) hg v1).setCell (p := ⟨g, 2, none⟩) hg v2).setCell (p := ⟨g, 3, none⟩) hg v3)
theorem st4_far {W : World} {g k : Nat} {te : TypeId} {cs : Array Value} {v0 v1 v2 v3 : Value} (h : Blk W k te cs) (hne : k ≠ g) : Blk (st4 W g v0 v1 v2 v3) k te cs := by
  unfold st4
  exact (far_st (far_st (far_st (far_st h hne v0) hne v1) hne v2) hne v3)
theorem z4_of {W : World} {g : Nat} {te : TypeId} {v0 v1 v2 v3 : Value} (h : Blk W g te #[v0, v1, v2, v3]) : W.cell? ⟨g, 0, none⟩ = some v0 ∧ W.cell? ⟨g, 1, none⟩ = some v1 ∧ W.cell? ⟨g, 2, none⟩ = some v2 ∧ W.cell? ⟨g, 3, none⟩ = some v3 ∧ W.frozen? ⟨g, 0, none⟩ = false ∧ W.frozen? ⟨g, 1, none⟩ = false ∧ W.frozen? ⟨g, 2, none⟩ = false ∧ W.frozen? ⟨g, 3, none⟩ = false := ⟨h.cell 0, h.cell 1, h.cell 2, h.cell 3, h.thaw 0, h.thaw 1, h.thaw 2, h.thaw 3⟩
theorem q4_of {W : World} {g : Nat} {te : TypeId} {v0 v1 v2 v3 : Value} (h : Blk W g te #[v0, v1, v2, v3]) : W.cell? ⟨g, 0, none⟩ = some v0 ∧ W.cell? ⟨g, 1, none⟩ = some v1 ∧ W.cell? ⟨g, 2, none⟩ = some v2 ∧ W.cell? ⟨g, 3, none⟩ = some v3 := ⟨h.cell 0, h.cell 1, h.cell 2, h.cell 3⟩
/-- a struct of 7 cells is stored -/
def st7 (W : World) (g : Nat) (v0 v1 v2 v3 v4 v5 v6 : Value) : World := (((((((W.setCell ⟨g, 0, none⟩ v0).setCell ⟨g, 1, none⟩ v1).setCell ⟨g, 2, none⟩ v2).setCell ⟨g, 3, none⟩ v3).setCell ⟨g, 4, none⟩ v4).setCell ⟨g, 5, none⟩ v5).setCell ⟨g, 6, none⟩ v6)
theorem st7_blk {W : World} {g : Nat} {te : TypeId} {u0 u1 u2 u3 u4 u5 u6 v0 v1 v2 v3 v4 v5 v6 : Value} (hk : Blk W g te #[u0, u1, u2, u3, u4, u5, u6]) : Blk (st7 W g v0 v1 v2 v3 v4 v5 v6) g te #[v0, v1, v2, v3, v4, v5, v6] := by
  have k0 : Blk (W.setCell ⟨g, 0, none⟩ v0) g te #[v0, u1, u2, u3, u4, u5, u6] := blk_st hk 0 v0
  have k1 : Blk ((W.setCell ⟨g, 0, none⟩ v0).setCell ⟨g, 1, none⟩ v1) g te #[v0, v1, u2, u3, u4, u5, u6] := blk_st k0 1 v1
  have k2 : Blk (((W.setCell ⟨g, 0, none⟩ v0).setCell ⟨g, 1, none⟩ v1).setCell ⟨g, 2, none⟩ v2) g te #[v0, v1, v2, u3, u4, u5, u6] := blk_st k1 2 v2
  have k3 : Blk ((((W.setCell ⟨g, 0, none⟩ v0).setCell ⟨g, 1, none⟩ v1).setCell ⟨g, 2, none⟩ v2).setCell ⟨g, 3, none⟩ v3) g te #[v0, v1, v2, v3, u4, u5, u6] := blk_st k2 3 v3
  have k4 : Blk (((((W.setCell ⟨g, 0, none⟩ v0).setCell ⟨g, 1, none⟩ v1).setCell ⟨g, 2, none⟩ v2).setCell ⟨g, 3, none⟩ v3).setCell ⟨g, 4, none⟩ v4) g te #[v0, v1, v2, v3, v4, u5, u6] := blk_st k3 4 v4
  have k5 : Blk ((((((W.setCell ⟨g, 0, none⟩ v0).setCell ⟨g, 1, none⟩ v1).setCell ⟨g, 2, none⟩ v2).setCell ⟨g, 3, none⟩ v3).setCell ⟨g, 4, none⟩ v4).setCell ⟨g, 5, none⟩ v5) g te #[v0, v1, v2, v3, v4, v5, u6] := blk_st k4 5 v5
  have k6 : Blk (((((((W.setCell ⟨g, 0, none⟩ v0).setCell ⟨g, 1, none⟩ v1).setCell ⟨g, 2, none⟩ v2).setCell ⟨g, 3, none⟩ v3).setCell ⟨g, 4, none⟩ v4).setCell ⟨g, 5, none⟩ v5).setCell ⟨g, 6, none⟩ v6) g te #[v0, v1, v2, v3, v4, v5, v6] := blk_st k5 6 v6
  exact k6
theorem st7_below {B : Nat} {w0 W : World} {g : Nat} {v0 v1 v2 v3 v4 v5 v6 : Value} (hb : Below B w0 W) (hg : B ≤ g) : Below B w0 (st7 W g v0 v1 v2 v3 v4 v5 v6) := (((((((hb.setCell (p := ⟨g, 0, none⟩) hg v0).setCell (p := ⟨g, 1, none⟩) hg v1).setCell (p := ⟨g, 2, none⟩) hg v2).setCell (p := ⟨g, 3, none⟩) hg v3).setCell (p := ⟨g, 4, none⟩) hg v4).setCell (p := ⟨g, 5, none⟩) hg v5).setCell (p := ⟨g, 6, none⟩) hg v6)
theorem st7_far {W : World} {g k : Nat} {te : TypeId} {cs : Array Value} {v0 v1 v2 v3 v4 v5 v6 : Value} (h : Blk W k te cs) (hne : k ≠ g) : Blk (st7 W g v0 v1 v2 v3 v4 v5 v6) k te cs := by
  unfold st7
  exact (far_st (far_st (far_st (far_st (far_st (far_st (far_st h hne v0) hne v1) hne v2) hne v3) hne v4) hne v5) hne v6)
theorem z7_of {W : World} {g : Nat} {te : TypeId} {v0 v1 v2 v3 v4 v5 v6 : Value} (h : Blk W g te #[v0, v1, v2, v3, v4, v5, v6]) : W.cell? ⟨g, 0, none⟩ = some v0 ∧ W.cell? ⟨g, 1, none⟩ = some v1 ∧ W.cell? ⟨g, 2, none⟩ = some v2 ∧ W.cell? ⟨g, 3, none⟩ = some v3 ∧ W.cell? ⟨g, 4, none⟩ = some v4 ∧ W.cell? ⟨g, 5, none⟩ = some v5 ∧ W.cell? ⟨g, 6, none⟩ = some v6 ∧ W.frozen? ⟨g, 0, none⟩ = false ∧ W.frozen? ⟨g, 1, none⟩ = false ∧ W.frozen? ⟨g, 2, none⟩ = false ∧ W.frozen? ⟨g, 3, none⟩ = false ∧ W.frozen? ⟨g, 4, none⟩ = false ∧ W.frozen? ⟨g, 5, none⟩ = false ∧ W.frozen? ⟨g, 6, none⟩ = false := ⟨h.cell 0, h.cell 1, h.cell 2, h.cell 3, h.cell 4, h.cell 5, h.cell 6, h.thaw 0, h.thaw 1, h.thaw 2, h.thaw 3, h.thaw 4, h.thaw 5, h.thaw 6⟩
theorem q7_of {W : World} {g : Nat} {te : TypeId} {v0 v1 v2 v3 v4 v5 v6 : Value} (h : Blk W g te #[v0, v1, v2, v3, v4, v5, v6]) : W.cell? ⟨g, 0, none⟩ = some v0 ∧ W.cell? ⟨g, 1, none⟩ = some v1 ∧ W.cell? ⟨g, 2, none⟩ = some v2 ∧ W.cell? ⟨g, 3, none⟩ = some v3 ∧ W.cell? ⟨g, 4, none⟩ = some v4 ∧ W.cell? ⟨g, 5, none⟩ = some v5 ∧ W.cell? ⟨g, 6, none⟩ = some v6 := ⟨h.cell 0, h.cell 1, h.cell 2, h.cell 3, h.cell 4, h.cell 5, h.cell 6⟩
/-- a struct of 11 cells is stored -/
def st11 (W : World) (g : Nat) (v0 v1 v2 v3 v4 v5 v6 v7 v8 v9 v10 : Value) : World := (((((((((((W.setCell ⟨g, 0, none⟩ v0).setCell ⟨g, 1, none⟩ v1).setCell ⟨g, 2, none⟩ v2).setCell ⟨g, 3, none⟩ v3).setCell ⟨g, 4, none⟩ v4).setCell ⟨g, 5, none⟩ v5).setCell ⟨g, 6, none⟩ v6).setCell ⟨g, 7, none⟩ v7).setCell ⟨g, 8, none⟩ v8).setCell ⟨g, 9, none⟩ v9).setCell ⟨g, 10, none⟩ v10)
theorem st11_blk {W : World} {g : Nat} {te : TypeId} {u0 u1 u2 u3 u4 u5 u6 u7 u8 u9 u10 v0 v1 v2 v3 v4 v5 v6 v7 v8 v9 v10 : Value} (hk : Blk W g te #[u0, u1, u2, u3, u4, u5, u6, u7, u8, u9, u10]) : Blk (st11 W g v0 v1 v2 v3 v4 v5 v6 v7 v8 v9 v10) g te #[v0, v1, v2, v3, v4, v5, v6, v7, v8, v9, v10] := by
  have k0 : Blk (W.setCell ⟨g, 0, none⟩ v0) g te #[v0, u1, u2, u3, u4, u5, u6, u7, u8, u9, u10] := blk_st hk 0 v0
  have k1 : Blk ((W.setCell ⟨g, 0, none⟩ v0).setCell ⟨g, 1, none⟩ v1) g te #[v0, v1, u2, u3, u4, u5, u6, u7, u8, u9, u10] := blk_st k0 1 v1
  have k2 : Blk (((W.setCell ⟨g, 0, none⟩ v0).setCell ⟨g, 1, none⟩ v1).setCell ⟨g, 2, none⟩ v2) g te #[v0, v1, v2, u3, u4, u5, u6, u7, u8, u9, u10] := blk_st k1 2 v2
  have k3 : Blk ((((W.setCell ⟨g, 0, none⟩ v0).setCell ⟨g, 1, none⟩ v1).setCell ⟨g, 2, none⟩ v2).setCell ⟨g, 3, none⟩ v3) g te #[v0, v1, v2, v3, u4, u5, u6, u7, u8, u9, u10] := blk_st k2 3 v3
  have k4 : Blk (((((W.setCell ⟨g, 0, none⟩ v0).setCell ⟨g, 1, none⟩ v1).setCell ⟨g, 2, none⟩ v2).setCell ⟨g, 3, none⟩ v3).setCell ⟨g, 4, none⟩ v4) g te #[v0, v1, v2, v3, v4, u5, u6, u7, u8, u9, u10] := blk_st k3 4 v4
  have k5 : Blk ((((((W.setCell ⟨g, 0, none⟩ v0).setCell ⟨g, 1, none⟩ v1).setCell ⟨g, 2, none⟩ v2).setCell ⟨g, 3, none⟩ v3).setCell ⟨g, 4, none⟩ v4).setCell ⟨g, 5, none⟩ v5) g te #[v0, v1, v2, v3, v4, v5, u6, u7, u8, u9, u10] := blk_st k4 5 v5
  have k6 : Blk (((((((W.setCell ⟨g, 0, none⟩ v0).setCell ⟨g, 1, none⟩ v1).setCell ⟨g, 2, none⟩ v2).setCell ⟨g, 3, none⟩ v3).setCell ⟨g, 4, none⟩ v4).setCell ⟨g, 5, none⟩ v5).setCell ⟨g, 6, none⟩ v6) g te #[v0, v1, v2, v3, v4, v5, v6, u7, u8, u9, u10] := blk_st k5 6 v6
  have k7 : Blk ((((((((W.setCell ⟨g, 0, none⟩ v0).setCell ⟨g, 1, none⟩ v1).setCell ⟨g, 2, none⟩ v2).setCell ⟨g, 3, none⟩ v3).setCell ⟨g, 4, none⟩ v4).setCell ⟨g, 5, none⟩ v5).setCell ⟨g, 6, none⟩ v6).setCell ⟨g, 7, none⟩ v7) g te #[v0, v1, v2, v3, v4, v5, v6, v7, u8, u9, u10] := blk_st k6 7 v7
  have k8 : Blk (((((((((W.setCell ⟨g, 0, none⟩ v0).setCell ⟨g, 1, none⟩ v1).setCell ⟨g, 2, none⟩ v2).setCell ⟨g, 3, none⟩ v3).setCell ⟨g, 4, none⟩ v4).setCell ⟨g, 5, none⟩ v5).setCell ⟨g, 6, none⟩ v6).setCell ⟨g, 7, none⟩ v7).setCell ⟨g, 8, none⟩ v8) g te #[v0, v1, v2, v3, v4, v5, v6, v7, v8, u9, u10] := blk_st k7 8 v8
  have k9 : Blk ((((((((((W.setCell ⟨g, 0, none⟩ v0).setCell ⟨g, 1, none⟩ v1).setCell ⟨g, 2, none⟩ v2).setCell ⟨g, 3, none⟩ v3).setCell ⟨g, 4, none⟩ v4).setCell ⟨g, 5, none⟩ v5).setCell ⟨g, 6, none⟩ v6).setCell ⟨g, 7, none⟩ v7).setCell ⟨g, 8, none⟩ v8).setCell ⟨g, 9, none⟩ v9) g te #[v0, v1, v2, v3, v4, v5, v6, v7, v8, v9, u10] := blk_st k8 9 v9
  have k10 : Blk (((((((((((W.setCell ⟨g, 0, none⟩ v0).setCell ⟨g, 1, none⟩ v1).setCell ⟨g, 2, none⟩ v2).setCell ⟨g, 3, none⟩ v3).setCell ⟨g, 4, none⟩ v4).setCell ⟨g, 5, none⟩ v5).setCell ⟨g, 6, none⟩ v6).setCell ⟨g, 7, none⟩ v7).setCell ⟨g, 8, none⟩ v8).setCell ⟨g, 9, none⟩ v9).setCell ⟨g, 10, none⟩ v10) g te #[v0, v1, v2, v3, v4, v5, v6, v7, v8, v9, v10] := blk_st k9 10 v10
  exact k10
theorem st11_below {B : Nat} {w0 W : World} {g : Nat} {v0 v1 v2 v3 v4 v5 v6 v7 v8 v9 v10 : Value} (hb : Below B w0 W) (hg : B ≤ g) : Below B w0 (st11 W g v0 v1 v2 v3 v4 v5 v6 v7 v8 v9 v10) := (((((((((((hb.setCell (p := ⟨g, 0, none⟩) hg v0).setCell (p := ⟨g, 1, none⟩) hg v1).setCell (p := ⟨g, 2, none⟩) hg v2).setCell (p := ⟨g, 3, none⟩) hg v3).setCell (p := ⟨g, 4, none⟩) hg v4).setCell (p := ⟨g, 5, none⟩) hg v5).setCell (p := ⟨g, 6, none⟩) hg v6).setCell (p := ⟨g, 7, none⟩) hg v7).setCell (p := ⟨g, 8, none⟩) hg v8).setCell (p := ⟨g, 9, none⟩) hg v9).setCell (p := ⟨g, 10, none⟩) hg v10)
theorem z11_of {W : World} {g : Nat} {te : TypeId} {v0 v1 v2 v3 v4 v5 v6 v7 v8 v9 v10 : Value} (h : Blk W g te #[v0, v1, v2, v3, v4, v5, v6, v7, v8, v9, v10]) : W.cell? ⟨g, 0, none⟩ = some v0 ∧ W.cell? ⟨g, 1, none⟩ = some v1 ∧ W.cell? ⟨g, 2, none⟩ = some v2 ∧ W.cell? ⟨g, 3, none⟩ = some v3 ∧ W.cell? ⟨g, 4, none⟩ = some v4 ∧ W.cell? ⟨g, 5, none⟩ = some v5 ∧ W.cell? ⟨g, 6, none⟩ = some v6 ∧ W.cell? ⟨g, 7, none⟩ = some v7 ∧ W.cell? ⟨g, 8, none⟩ = some v8 ∧ W.cell? ⟨g, 9, none⟩ = some v9 ∧ W.cell? ⟨g, 10, none⟩ = some v10 ∧ W.frozen? ⟨g, 0, none⟩ = false ∧ W.frozen? ⟨g, 1, none⟩ = false ∧ W.frozen? ⟨g, 2, none⟩ = false ∧ W.frozen? ⟨g, 3, none⟩ = false ∧ W.frozen? ⟨g, 4, none⟩ = false ∧ W.frozen? ⟨g, 5, none⟩ = false ∧ W.frozen? ⟨g, 6, none⟩ = false ∧ W.frozen? ⟨g, 7, none⟩ = false ∧ W.frozen? ⟨g, 8, none⟩ = false ∧ W.frozen? ⟨g, 9, none⟩ = false ∧ W.frozen? ⟨g, 10, none⟩ = false := ⟨h.cell 0, h.cell 1, h.cell 2, h.cell 3, h.cell 4, h.cell 5, h.cell 6, h.cell 7, h.cell 8, h.cell 9, h.cell 10, h.thaw 0, h.thaw 1, h.thaw 2, h.thaw 3, h.thaw 4, h.thaw 5, h.thaw 6, h.thaw 7, h.thaw 8, h.thaw 9, h.thaw 10⟩
theorem q11_of {W : World} {g : Nat} {te : TypeId} {v0 v1 v2 v3 v4 v5 v6 v7 v8 v9 v10 : Value} (h : Blk W g te #[v0, v1, v2, v3, v4, v5, v6, v7, v8, v9, v10]) : W.cell? ⟨g, 0, none⟩ = some v0 ∧ W.cell? ⟨g, 1, none⟩ = some v1 ∧ W.cell? ⟨g, 2, none⟩ = some v2 ∧ W.cell? ⟨g, 3, none⟩ = some v3 ∧ W.cell? ⟨g, 4, none⟩ = some v4 ∧ W.cell? ⟨g, 5, none⟩ = some v5 ∧ W.cell? ⟨g, 6, none⟩ = some v6 ∧ W.cell? ⟨g, 7, none⟩ = some v7 ∧ W.cell? ⟨g, 8, none⟩ = some v8 ∧ W.cell? ⟨g, 9, none⟩ = some v9 ∧ W.cell? ⟨g, 10, none⟩ = some v10 := ⟨h.cell 0, h.cell 1, h.cell 2, h.cell 3, h.cell 4, h.cell 5, h.cell 6, h.cell 7, h.cell 8, h.cell 9, h.cell 10⟩
end Go.Proofs.Ytkmkaidhpbjbnaa.Stk

/- The contracts of package credit, second part. -/
namespace Go.Proofs.Ytkmkaidhpbjbnaa.CrdB
set_option maxRecDepth 100000
open Go.ChangeShapes Go.WideShapes Go.ChangeAt Go.RowKit Mem Tre Ref3 Law3 Crd
set_option linter.unusedVariables false

def MadeOwnSt (l : List (Int × Int)) (u : List Int) (w : World) (e : Ending) (w' : World) : Prop :=
  ∃ A c A' c', e = .returned (.agg #[.slice A l.length c, .slice A' u.length c']) ∧ OwnN w.heap.size w' A c l ∧ OwnI w.heap.size w' A' c' u ∧ Below w.heap.size w w'

theorem below_step {a b c : World} (h : Below a.heap.size a b) (k : Below b.heap.size b c) : Below a.heap.size a c := h.trans (k.mono h.size)
theorem own_mono {w : World} {base base' : Nat} {e : TypeId} {size n : Nat} {v : Value} {xs : List Value} (h : w.ownsRow base e size v n xs) (hb : base' ≤ base) : w.ownsRow base' e size v n xs := by
  refine ⟨h.1, ?_⟩
  rcases h.2 with h2 | ⟨g, cap, cur, hv, hg, r⟩
  · exact .inl h2
  · exact .inr ⟨g, cap, cur, hv, by omega, r⟩

theorem blk_set {w : World} {g : Nat} {te : TypeId} {cs : Array Value} (h : Blk w g te cs) (i : Nat) (u : Value) : Blk (w.setCell ⟨g, i, none⟩ u) g te (cs.setIfInBounds i u) := by
  unfold Blk at h ⊢
  simp [World.setCell, Array.getElem?_modify, h]

set_option maxHeartbeats 1000000 in
theorem own_any (A A' : Option Addr) (c c' : Nat) (l : List (Int × Int)) (u : List Int) (w : World) (hl : Hid (Nds w w.heap.size A l)) (hu : Hid (Ris w w.heap.size A' u)) (hmax : (l.length : Int) ≤ 1000000) (hmay : (u.length : Int) ≤ 1000000) :
    Calls Try.prog 76 #[.agg #[.slice A l.length c, .slice A' u.length c']] w (MadeOwnSt l u w) := by
  have H1 : Hid (∀ W, Below w.heap.size w W → Nds W W.heap.size A l) := fun W hb => Rd.below' hl.out hb hb.size
  have H2 : Hid (∀ W, Below w.heap.size w W → Ris W W.heap.size A' u) := fun W hb => Rd.below' hu.out hb hb.size
  have b0 : Below w.heap.size w (((w.alloc (.cells #[.slice A l.length c, .slice A' u.length c'] 62)).alloc (.cells #[.slice none 0 0, .slice none 0 0] 62)).drew) := (((Below.refl _ _).alloc (Nat.le_refl _) _).alloc (by simp) _).drew
  have k1 : Blk (((w.alloc (.cells #[.slice A l.length c, .slice A' u.length c'] 62)).alloc (.cells #[.slice none 0 0, .slice none 0 0] 62)).drew) w.heap.size 62 #[.slice A l.length c, .slice A' u.length c'] := (Blk.fresh w _ _).alloc _
  have k2 : Blk (((w.alloc (.cells #[.slice A l.length c, .slice A' u.length c'] 62)).alloc (.cells #[.slice none 0 0, .slice none 0 0] 62)).drew) (w.heap.size + 1) 62 #[.slice none 0 0, .slice none 0 0] := by
    have := Blk.fresh (w.alloc (.cells #[.slice A l.length c, .slice A' u.length c'] 62)) 62 #[.slice none 0 0, .slice none 0 0]
    simp only [World.size_alloc] at this
    exact this
  have f0 : (((w.alloc (.cells #[.slice A l.length c, .slice A' u.length c'] 62)).alloc (.cells #[.slice none 0 0, .slice none 0 0] 62)).drew).cell? ⟨w.heap.size, 0, none⟩ = some (.slice A l.length c) := k1.cell 0
  have f1 : (((w.alloc (.cells #[.slice A l.length c, .slice A' u.length c'] 62)).alloc (.cells #[.slice none 0 0, .slice none 0 0] 62)).drew).cell? ⟨w.heap.size, 1, none⟩ = some (.slice A' u.length c') := k1.cell 1
  have K1 := Lib.hid k1
  have K2 := Lib.hid k2
  clear k1 k2
  go_enter Try.func76, Try.ntmps76
  go_wp2_with fail
  go_region_held3 (fun w' => w'.cell? ⟨w.heap.size, 0, none⟩ = some (.slice A l.length c) ∧ w'.cell? ⟨w.heap.size, 1, none⟩ = some (.slice A' u.length c'))
    (first | go_keep | (exact ⟨q1, p1⟩) | (exact ⟨q2, p2⟩))
    (first
      | (go_at_call 35; refine (cloneN_any _ _ l _ (H1.out _ (by assumption)) hmax).mono ?_; rintro e w1 ⟨A1, c1, rfl, ho1, hb1⟩; have b1 := below_step (by assumption) hb1; have q1 : w1.cell? ⟨w.heap.size, 0, none⟩ = some (.slice A l.length c) := cell_later hb1 (by assumption); have p1 : w1.cell? ⟨w.heap.size, 1, none⟩ = some (.slice A' u.length c') := cell_later hb1 (by assumption); have k1 : Hid (Blk w1 (w.heap.size + 1) 62 #[.slice none 0 0, .slice none 0 0]) := Blk.below' (Hid.out (by assumption)) hb1; have r1 : w1.cell? ⟨w.heap.size + 1, 0, none⟩ = some (.slice none 0 0) := k1.out.cell 0; have s1 : w1.cell? ⟨w.heap.size + 1, 1, none⟩ = some (.slice none 0 0) := k1.out.cell 1; have y1 : w1.frozen? ⟨w.heap.size + 1, 0, none⟩ = false := k1.out.thaw 0; have z1 : w1.frozen? ⟨w.heap.size + 1, 1, none⟩ = false := k1.out.thaw 1)
      | (go_at_call 36; refine (cloneI_any _ _ u _ (H2.out _ (by assumption)) hmay).mono ?_; rintro e w2 ⟨A2, c2, rfl, ho2, hb2⟩; have b2 := below_step (by assumption) hb2; have q2 : w2.cell? ⟨w.heap.size, 0, none⟩ = some (.slice A l.length c) := cell_later hb2 (by assumption); have p2 : w2.cell? ⟨w.heap.size, 1, none⟩ = some (.slice A' u.length c') := cell_later hb2 (by assumption); have k2 : Hid (Blk w2 (w.heap.size + 1) 62 #[.slice none 0 0, .slice none 0 0]) := Blk.below' (Hid.out (by assumption)) hb2; have r2 : w2.cell? ⟨w.heap.size + 1, 0, none⟩ = some (.slice none 0 0) := k2.out.cell 0; have s2 : w2.cell? ⟨w.heap.size + 1, 1, none⟩ = some (.slice none 0 0) := k2.out.cell 1; have y2 : w2.frozen? ⟨w.heap.size + 1, 0, none⟩ = false := k2.out.thaw 0; have z2 : w2.frozen? ⟨w.heap.size + 1, 1, none⟩ = false := k2.out.thaw 1))
  · have o1 : (w2.setCell ⟨w.heap.size + 1, 0, none⟩ (.slice A1 l.length c1)).setCell ⟨w.heap.size + 1, 1, none⟩ (.slice A2 u.length c2) |>.ownsRow w.heap.size 99 2 (.slice A1 l.length c1) l.length (nds l) :=
      own_mono (ownsRow_setCell_below (ownsRow_setCell_below (own_mono (base' := w.heap.size + 2) (own_below ho1 hb2).out (by simp [World.drew])) (by simp) _) (by simp) _) (by omega)
    have o2 : (w2.setCell ⟨w.heap.size + 1, 0, none⟩ (.slice A1 l.length c1)).setCell ⟨w.heap.size + 1, 1, none⟩ (.slice A2 u.length c2) |>.ownsRow w.heap.size 2 1 (.slice A2 u.length c2) u.length (ints u) :=
      own_mono (ownsRow_setCell_below (ownsRow_setCell_below (own_mono (base' := w.heap.size + 2) ho2 (by have := hb1.size; simp [World.drew] at this; omega)) (by simp) _) (by simp) _) (by omega)
    have b3 : Below w.heap.size w ((w2.setCell ⟨w.heap.size + 1, 0, none⟩ (.slice A1 l.length c1)).setCell ⟨w.heap.size + 1, 1, none⟩ (.slice A2 u.length c2)) := (b2.setCell (by simp) _).setCell (by simp) _
    have HO1 := Lib.hid o1
    have HO2 := Lib.hid o2
    clear o1 o2 ho1 ho2
    go_wp2_with fail
    have kf := blk_set (blk_set k2.out 0 (.slice A1 l.length c1)) 1 (.slice A2 u.length c2)
    have g0 := kf.cell 0
    have g1 := kf.cell 1
    simp at g0 g1
    exact bodyPost_ret (v := .agg #[.slice A1 l.length c1, .slice A2 u.length c2]) (by simp [results, Try.results76, go_sem, g0, g1]) rfl ⟨A1, c1, A2, c2, rfl, HO1.out, HO2.out, b3⟩
end Go.Proofs.Ytkmkaidhpbjbnaa.CrdB

/- The contracts of package credit and of its reference, third part: Begin, Right, pathOf. -/
namespace Go.Proofs.Ytkmkaidhpbjbnaa.CrdC
set_option maxRecDepth 100000
open Go.ChangeShapes Go.WideShapes Go.ChangeAt Go.RowKit Mem Tre Ref3 Law3 Crd CrdB
set_option linter.unusedVariables false

def zeros (n : Nat) : List Int := List.replicate n 0
theorem zeros_len (n : Nat) : (zeros n).length = n := by simp [zeros]
theorem made_zeros (n : Nat) : (madeCells (Value.int .i64 0).cells n).toList = ints (zeros n) := by
  refine List.ext_getElem? fun i => ?_
  by_cases h : i < n
  · have e : (madeCells (Value.int .i64 0).cells n)[i]? = some (Value.int .i64 0) := by
      unfold madeCells
      simp [h, Value.cells]
      exact Nat.mod_one i ▸ rfl
    simp [ints, zeros, h, e]
  · simp [ints, zeros, madeCells, h]

theorem blk_far {w : World} {g : Nat} {te : TypeId} {cs : Array Value} (h : Blk w g te cs) {p : Addr} (hp : g ≠ p.block) (u : Value) : Blk (w.setCell p u) g te cs := (Below.heap_setCell w p u g hp).trans h

/-! ### Right -/
def maxC (x : Int) : Bool := decide (0 ≤ x) && decide (x ≤ 4611686018427387904)
def rightF (l : List (Int × Int)) (u : List Int) : Bool := decide ((chk l).1 = 0) && decide (u.length = l.length) && u.all maxC
def UOk (u : List Int) : Prop := ∀ i, i < u.length → 0 ≤ gI u i ∧ gI u i ≤ 4611686018427387904
theorem all_of {u : List Int} (h : UOk u) : u.all maxC = true := by
  simp only [List.all_eq_true]
  intro x hx
  obtain ⟨i, hi, rfl⟩ := List.getElem_of_mem hx
  have := h i hi
  simp [gI, hi] at this
  simp [maxC, this]
theorem all_not {u : List Int} {i : Nat} (hi : i < u.length) (h : gI u i < 0 ∨ 4611686018427387904 < gI u i) : u.all maxC = false := by
  rw [List.all_eq_false]
  refine ⟨u[i], List.getElem_mem hi, ?_⟩
  simp [gI, hi] at h
  simp [maxC]
  omega
theorem rightF_c {l : List (Int × Int)} {u : List Int} (h : ¬ (chk l).1 = 0) : rightF l u = false := by simp [rightF, h]
theorem rightF_l {l : List (Int × Int)} {u : List Int} (h : ¬ u.length = l.length) : rightF l u = false := by simp [rightF, h]
theorem rightF_a {l : List (Int × Int)} {u : List Int} (h : u.all maxC = false) : rightF l u = false := by unfold rightF; rw [h, Bool.and_false]
theorem rightF_t {l : List (Int × Int)} {u : List Int} (h : (chk l).1 = 0) (h' : u.length = l.length) (h'' : UOk u) : rightF l u = true := by
  simp only [rightF, all_of h'', h, h']; rfl

set_option maxHeartbeats 1000000 in
theorem right_any (A A' : Option Addr) (c c' : Nat) (l : List (Int × Int)) (u : List Int) (w : World) (hl : Hid (Nds w w.heap.size A l)) (hu : Hid (Ris w w.heap.size A' u)) (hw : Hid (WfN l)) (hwu : Hid (WfI u)) (hmax : (l.length : Int) ≤ 1000000) (hmay : (u.length : Int) ≤ 1000000) :
    Calls Try.prog 87 #[.agg #[.slice A l.length c, .slice A' u.length c']] w (MadeB (rightF l u) w) := by
  have b0 : Below w.heap.size w (w.alloc (.cells #[.slice A l.length c, .slice A' u.length c'] 62)) := (Below.refl _ _).alloc (Nat.le_refl _) _
  have l0 : Hid (Nds (w.alloc (.cells #[.slice A l.length c, .slice A' u.length c'] 62)) (w.alloc (.cells #[.slice A l.length c, .slice A' u.length c'] 62)).heap.size A l) := Rd.below' hl.out b0 b0.size
  have u0 : Hid (Ris (w.alloc (.cells #[.slice A l.length c, .slice A' u.length c'] 62)) (w.alloc (.cells #[.slice A l.length c, .slice A' u.length c'] 62)).heap.size A' u) := Rd.below' hu.out b0 b0.size
  have k0 : Hid (Blk (w.alloc (.cells #[.slice A l.length c, .slice A' u.length c'] 62)) w.heap.size 62 #[.slice A l.length c, .slice A' u.length c']) := Blk.fresh _ _ _
  go_enter Try.func87, Try.ntmps87
  go_wp2_with fail
  refine (check_any A c l _ l0.out hw (by omega)).mono ?_
  rintro e w1 ⟨rfl, hb1⟩
  have b1 := below_step b0 hb1
  have k1 := Lib.hid (Blk.below' k0.out hb1)
  have u1 : Hid (Ris w1 w1.heap.size A' u) := Rd.below' u0.out hb1 hb1.size
  have f0 : w1.cell? ⟨w.heap.size, 0, none⟩ = some (.slice A l.length c) := k1.out.cell 0
  have f1 : w1.cell? ⟨w.heap.size, 1, none⟩ = some (.slice A' u.length c') := k1.out.cell 1
  clear b0 l0 u0 k0 hb1
  by_cases hc : (chk l).1 = 0
  · have c1 : ((chk l).1 != 0) = false := by simp [hc]
    have c2 : ((chk l).1 == 0) = true := by simp [hc]
    by_cases hn : u.length = l.length
    · have n1 : ((u.length : Int) != (l.length : Int)) = false := by simp; omega
      have n2 : ((u.length : Int) == (l.length : Int)) = true := by simp; omega
      have HC := Lib.hid hc
      have HN := Lib.hid hn
      clear hc hn
      go_wp2_with fail
      go_loopg [27] u.length (fun g s27 w' => ∃ k : Nat, k + g = u.length ∧ s27 = .int .i64 k ∧ Hid (∀ i, i < k → 0 ≤ gI u i ∧ gI u i ≤ 4611686018427387904) ∧ w1 = w')
      case atStart => exact ⟨0, by omega, rfl, fun i hi => absurd hi (Nat.not_lt_zero i), rfl⟩
      case round =>
        obtain ⟨k, hk, rfl, hall, rfl⟩ := hrel
        by_cases hlt : (k : Int) < (u.length : Int)
        · obtain ⟨g, rfl⟩ : ∃ g, gk = g + 1 := ⟨gk - 1, by omega⟩
          obtain ⟨b, o, rfl, hb, hcc⟩ := Ris.at (i := k) u1.out (by omega)
          have d0 := hcc k (by omega)
          obtain ⟨d1, d2⟩ := hwu.out k (by omega)
          clear hcc
          by_cases h0 : 0 ≤ gI u k ∧ gI u k ≤ 4611686018427387904
          · have hall' : Hid (∀ i, i < k + 1 → 0 ≤ gI u i ∧ gI u i ≤ 4611686018427387904) := fun i hi => by
              by_cases e : i = k
              · subst e; exact h0
              · exact hall.out i (by omega)
            obtain ⟨h1, h2⟩ := h0
            go_wp2_with fail
            go_roundg g
            case measure => omega
            case rel => exact ⟨k + 1, by omega, by go_num, hall', rfl⟩
          · have hf := Lib.hid (rightF_a (l := l) (u := u) (all_not (u := u) (i := k) (by omega) (by omega)))
            by_cases h1 : gI u k < 0
            · clear h0
              go_wp2_with fail
              go_ret
              exact madeB_mk hf.out b1
            · have h2 : 4611686018427387904 < gI u k := by omega
              clear h0
              go_wp2_with fail
              go_ret
              exact madeB_mk hf.out b1
        · have hf := Lib.hid (rightF_t (l := l) (u := u) HC.out HN.out (fun i hi => hall.out i (by omega)))
          go_wp2_with fail
          go_ret
          exact madeB_mk hf.out b1
    · have n1 : ((u.length : Int) != (l.length : Int)) = true := by simp; omega
      have n2 : ((u.length : Int) == (l.length : Int)) = false := by simp; omega
      have hf := Lib.hid (rightF_l (l := l) (u := u) hn)
      clear hn hc
      go_wp2_with fail
      go_ret
      exact madeB_mk hf.out b1
  · have c1 : ((chk l).1 != 0) = true := by simp [hc]
    have c2 : ((chk l).1 == 0) = false := by simp [hc]
    have hf := Lib.hid (rightF_c (u := u) hc)
    clear hc
    go_wp2_with fail
    go_ret
    exact madeB_mk hf.out b1

set_option maxHeartbeats 1000000 in
theorem pathOf_any (A A' : Option Addr) (c c' : Nat) (l : List (Int × Int)) (u : List Int) (n : Int) (w : World) (hl : Hid (Nds w w.heap.size A l)) (hu : Hid (Ris w w.heap.size A' u)) (hw : Hid (WfN l)) (hwu : Hid (WfI u)) (hmax : (l.length : Int) ≤ 1000000) (hmay : (u.length : Int) ≤ 1000000) (hn : inI n) (hr : rightF l u = true) :
    Calls Try.prog 77 #[.agg #[.slice A l.length c, .slice A' u.length c'], .int .i64 n] w (MadeIF (pathF l 3 n) w) := by
  have b0 : Below w.heap.size w (w.alloc (.cells #[.slice A l.length c, .slice A' u.length c'] 62)) := (Below.refl _ _).alloc (Nat.le_refl _) _
  have l0 : Hid (Nds (w.alloc (.cells #[.slice A l.length c, .slice A' u.length c'] 62)) (w.alloc (.cells #[.slice A l.length c, .slice A' u.length c'] 62)).heap.size A l) := Rd.below' hl.out b0 b0.size
  have u0 : Hid (Ris (w.alloc (.cells #[.slice A l.length c, .slice A' u.length c'] 62)) (w.alloc (.cells #[.slice A l.length c, .slice A' u.length c'] 62)).heap.size A' u) := Rd.below' hu.out b0 b0.size
  have k0 : Hid (Blk (w.alloc (.cells #[.slice A l.length c, .slice A' u.length c'] 62)) w.heap.size 62 #[.slice A l.length c, .slice A' u.length c']) := Blk.fresh _ _ _
  go_enter Try.func77, Try.ntmps77
  go_wp2_with fail
  refine (right_any A A' c c' l u _ l0 u0 hw hwu hmax hmay).mono ?_
  rintro e w1 ⟨rfl, hb1⟩
  have b1 := below_step b0 hb1
  have k1 := Lib.hid (Blk.below' k0.out hb1)
  have l1 : Hid (Nds w1 w1.heap.size A l) := Rd.below' l0.out hb1 hb1.size
  have f0 : w1.cell? ⟨w.heap.size, 0, none⟩ = some (.slice A l.length c) := k1.out.cell 0
  clear b0 l0 u0 k0 hb1
  go_wp2_with fail
  refine (path_fresh A c l n _ l1.out hw (by omega) hn).mono ?_
  rintro e w2 ⟨A2, c2, rfl, hr2, hf2, hb2⟩
  have hff : Hid (∀ a, A2 = some a → w.heap.size ≤ a.block) := fun a ha => by have := hf2 a ha; have := b1.size; omega
  have HR := Lib.hid hr2
  have b2 := below_step b1 hb2
  clear hr2 hb2 hf2
  go_wp2_with fail
  go_ret
  exact madeIF_mk rfl HR.out hff.out b2
end Go.Proofs.Ytkmkaidhpbjbnaa.CrdC

/- The contract of the reference's Fix, and that what it gives is a tree that may be. Condition: the list lies in memory, its numbers are of 64 bits. -/
namespace Go.Proofs.Ytkmkaidhpbjbnaa.Fix3
set_option maxRecDepth 100000
open Go.ChangeShapes Go.WideShapes Go.ChangeAt Go.RowKit Mem Tre Ref3 Law3
set_option linter.unusedVariables false

def capF (c : Int) : Int := (c % 18446744073709551616) % 4611686018427387905
def fixP (l out : List (Int × Int)) (k : Nat) : Int :=
  if 0 < k ∧ 0 ≤ nP l k then (if 3 ≤ (pathF out 3 (nP l k % k)).length then -1 else nP l k % k) else -1
def fixK (l : List (Int × Int)) : Nat → List (Int × Int)
  | 0 => []
  | k + 1 => fixK l k ++ [(fixP l (fixK l k) k, capF (nC l k))]
def fixF (l : List (Int × Int)) : List (Int × Int) := if l.length = 0 then [(-1, 1000)] else fixK l (min l.length 10)
theorem fixK_len (l : List (Int × Int)) (k : Nat) : (fixK l k).length = k := by
  induction k with
  | zero => rfl
  | succ k ih => rw [fixK, List.length_append, ih]; rfl
theorem capF_b (c : Int) : 0 ≤ capF c ∧ capF c ≤ 4611686018427387904 := by unfold capF; omega

/-- a tree that may be, each node behind the one that it hangs on -/
def Okt (l : List (Int × Int)) : Prop := ∀ i, i < l.length → -1 ≤ nP l i ∧ nP l i < i ∧ 0 ≤ nC l i ∧ nC l i ≤ 4611686018427387904 ∧ top l 3 i = true
theorem nP_snoc_lt {l : List (Int × Int)} {x : Int × Int} {i : Nat} (h : i < l.length) : nP (l ++ [x]) i = nP l i := by
  simp [nP, List.getElem?_append_left h]
theorem nC_snoc_lt {l : List (Int × Int)} {x : Int × Int} {i : Nat} (h : i < l.length) : nC (l ++ [x]) i = nC l i := by
  simp [nC, List.getElem?_append_left h]
theorem nP_snoc_eq {l : List (Int × Int)} {x : Int × Int} : nP (l ++ [x]) l.length = x.1 := by simp [nP]
theorem nC_snoc_eq {l : List (Int × Int)} {x : Int × Int} : nC (l ++ [x]) l.length = x.2 := by simp [nC]
theorem top_snoc {l : List (Int × Int)} {x : Int × Int} (h : Okt l) : ∀ (d a : Nat), a < l.length → top (l ++ [x]) d a = top l d a
  | 0, _, _ => rfl
  | d + 1, a, ha => by
    have hb := h a ha
    by_cases e : nP l a = -1
    · rw [top_m1 e, top_m1 (by rw [nP_snoc_lt ha]; exact e)]
    · have e' : (nP l a == -1) = false := by simp [e]
      rw [top_up e', top_up (by rw [nP_snoc_lt ha]; exact e'), nP_snoc_lt ha]
      exact top_snoc h d _ (by omega)
theorem top_short {l : List (Int × Int)} (h : Okt l) {a : Nat} (ha : a < l.length) (hp : (pathF l 3 a).length < 3) : top l 2 a = true := by
  have hb := h a ha
  rw [pathF_in (inR_t (by omega) (by omega)), Int.toNat_natCast] at hp
  by_cases e : nP l a = -1
  · exact top_m1 e
  · have e' : (nP l a == -1) = false := by simp [e]
    have hb2 := h (nP l a).toNat (by omega)
    rw [top_up e']
    rw [pathF_in (inR_t (by omega) (by omega))] at hp
    by_cases e2 : nP l (nP l a).toNat = -1
    · exact top_m1 e2
    · rw [pathF_in (inR_t (by omega) (by omega))] at hp
      simp at hp
      omega
theorem okt_snoc {l : List (Int × Int)} {p c : Int} (h : Okt l) (hc : 0 ≤ c ∧ c ≤ 4611686018427387904) (hp : p = -1 ∨ (0 ≤ p ∧ p < l.length ∧ (pathF l 3 p).length < 3)) : Okt (l ++ [(p, c)]) := by
  intro i hi
  simp at hi
  by_cases e : i < l.length
  · have := h i e
    rw [nP_snoc_lt e, nC_snoc_lt e, top_snoc h 3 i e]
    exact this
  · obtain rfl : i = l.length := by omega
    rw [nP_snoc_eq, nC_snoc_eq]
    refine ⟨by simp; omega, by simp; omega, hc.1, hc.2, ?_⟩
    rcases hp with hp | ⟨h0, h1, h2⟩
    · exact top_m1 (by rw [nP_snoc_eq]; exact hp)
    · have e' : (nP (l ++ [(p, c)]) l.length == -1) = false := by rw [nP_snoc_eq]; simp; omega
      rw [top_up e', nP_snoc_eq]
      simp only
      rw [top_snoc h 2 _ (by omega)]
      exact top_short h (by omega) (by rwa [Int.toNat_of_nonneg h0])
theorem fixP_or (l out : List (Int × Int)) (k : Nat) : fixP l out k = -1 ∨ (0 ≤ fixP l out k ∧ fixP l out k < k ∧ (pathF out 3 (fixP l out k)).length < 3) := by
  unfold fixP
  split
  · rename_i h
    have h1 := Int.emod_nonneg (nP l k) (b := (k : Int)) (by omega)
    have h2 := Int.emod_lt_of_pos (nP l k) (b := (k : Int)) (by omega)
    split
    · exact .inl rfl
    · exact .inr ⟨h1, h2, by omega⟩
  · exact .inl rfl
theorem okt_fixK (l : List (Int × Int)) (k : Nat) : Okt (fixK l k) := by
  induction k with
  | zero => intro i hi; simp [fixK] at hi
  | succ k ih =>
    rw [fixK]
    refine okt_snoc ih (capF_b _) ?_
    rw [fixK_len]
    exact fixP_or l _ k
theorem okt_fixF (l : List (Int × Int)) : Okt (fixF l) := by
  unfold fixF
  split
  · intro i hi
    obtain rfl : i = 0 := by simpa using hi
    exact ⟨by decide, by decide, by decide, by decide, rfl⟩
  · exact okt_fixK _ _
theorem fixF_len (l : List (Int × Int)) : 1 ≤ (fixF l).length ∧ (fixF l).length ≤ 10 := by
  unfold fixF
  split
  · simp
  · rw [fixK_len]; omega
theorem okt_wf {l : List (Int × Int)} (h : Okt l) (hl : l.length ≤ 32) : WfN l := fun i hi => by
  have := h i hi
  exact ⟨⟨by omega, by omega⟩, ⟨by omega, by omega⟩⟩
theorem okt_scan {l : List (Int × Int)} (h : Okt l) : ∀ (g k : Nat), k + g = l.length → scanF l g k = climbF l l.length 0
  | 0, k, _ => rfl
  | g + 1, k, e => by
    have hb := h k (by omega)
    rw [scan_go (g := g) (by by_cases e : nP l k = -1; exact .inl e; exact .inr (inR_t (by omega) (by omega))) hb.2.2.1 hb.2.2.2.1]
    exact okt_scan h g (k + 1) (by omega)
theorem okt_climb {l : List (Int × Int)} (h : Okt l) : ∀ (g k : Nat), k + g = l.length → climbF l g k = (0, -1)
  | 0, k, _ => rfl
  | g + 1, k, e => by
    rw [climbF_go (h k (by omega)).2.2.2.2]
    exact okt_climb h g (k + 1) (by omega)
theorem okt_chk {l : List (Int × Int)} (h : Okt l) (h1 : 1 ≤ l.length) (h2 : l.length ≤ 32) : chk l = (0, -1) := by
  rw [chk, if_neg (by omega), if_neg (by omega), okt_scan h _ 0 (by omega), okt_climb h _ 0 (by omega)]

theorem wrap_u64 (x : Int) : IntKind.u64.wrap x = x % 18446744073709551616 := by simp [IntKind.wrap, IntKind.bits, IntKind.signed]
theorem capE (c : Int) : wrap64 ((IntKind.u64.wrap c).tmod 4611686018427387905) = capF c := by
  rw [wrap_u64, Int.tmod_eq_emod_of_nonneg (Int.emod_nonneg _ (by decide))]
  have := capF_b c
  unfold wrap64
  show _ = capF c
  change ((capF c) + _) % _ - _ = _
  omega
theorem rpath_n (n : Nat) (A : Option Addr) (c : Nat) (l : List (Int × Int)) (m : Int) (w : World) (hn : n = l.length) (hl : Hid (Nds w w.heap.size A l)) (hw : Hid (WfN l)) (hmax : (l.length : Int) ≤ 9223372036854775807) (hm : inI m) :
    Calls Try.prog 63 #[.slice A n c, .int .i64 m] w (MadeI (pathF l 3 m) w) := by subst hn; exact rpath_any A c l m w hl hw hmax hm

end Go.Proofs.Ytkmkaidhpbjbnaa.Fix3

/- Plain facts on reserving and releasing along a path of a tree that may be: no program, no condition. -/
namespace Go.Proofs.Ytkmkaidhpbjbnaa.Cpl
set_option maxRecDepth 100000
open Go.RowKit Mem Tre Ref3 Law3 Fix3 Crd CrdB CrdC

def addF (u : List Int) (p : List Int) (x : Int) : List Int := (List.range u.length).map fun (j : Nat) => if (j : Int) ∈ p then gI u j + x else gI u j
theorem addF_len (u p : List Int) (x : Int) : (addF u p x).length = u.length := by simp [addF]
theorem gI_addF {u p : List Int} {x : Int} {j : Nat} (h : j < u.length) : gI (addF u p x) j = if (j : Int) ∈ p then gI u j + x else gI u j := by
  simp [addF, gI, h]
theorem ext_gI {u v : List Int} (hl : u.length = v.length) (h : ∀ j, j < u.length → gI u j = gI v j) : u = v := by
  refine List.ext_getElem hl fun i h1 h2 => ?_
  have := h i h1
  simpa [gI, h1, h2] using this
theorem addF_nil (u : List Int) (x : Int) : addF u [] x = u := ext_gI (addF_len _ _ _) fun j hj => by
  rw [addF_len] at hj; rw [gI_addF hj]; simp
theorem gI_set {u : List Int} {k j : Nat} {x : Int} (h : j < u.length) : gI (u.set k x) j = if k = j then x else gI u j := by
  unfold gI
  by_cases e : k = j
  · subst e; simp [h]
  · simp [List.getElem?_set, e]
/-- all places of p are apart, and places of the list -/
def Apart (n : Nat) (p : List Int) : Prop := (∀ i, i < p.length → 0 ≤ gI p i ∧ gI p i < n) ∧ ∀ i j, i < j → j < p.length → gI p i ≠ gI p j
theorem mem_take {p : List Int} {k : Nat} {x : Int} : x ∈ p.take k ↔ ∃ i, i < k ∧ i < p.length ∧ gI p i = x := by
  rw [List.mem_iff_getElem?]
  constructor
  · rintro ⟨i, hi⟩
    have h1 := (List.getElem?_eq_some_iff.1 hi).1
    have h2 : i < k ∧ i < p.length := by simp at h1; omega
    refine ⟨i, h2.1, h2.2, ?_⟩
    rw [List.getElem?_take, if_pos h2.1] at hi
    simp [gI, hi]
  · rintro ⟨i, h1, h2, h3⟩
    refine ⟨i, ?_⟩
    rw [List.getElem?_take, if_pos h1]
    simpa [gI, h2] using h3
theorem not_mem {n : Nat} {p : List Int} (h : Apart n p) {k : Nat} (hk : k < p.length) : gI p k ∉ p.take k := by
  rw [mem_take]
  rintro ⟨i, h1, h2, h3⟩
  exact h.2 i k h1 hk h3
theorem addF_at {u p : List Int} {x : Int} {k : Nat} (h : Apart u.length p) (hk : k < p.length) : gI (addF u (p.take k) x) (gI p k).toNat = gI u (gI p k).toNat := by
  have hb := h.1 k hk
  rw [gI_addF (by omega), if_neg]
  rw [Int.toNat_of_nonneg hb.1]
  exact not_mem h hk
theorem addF_step {u p : List Int} {x : Int} {k : Nat} (h : Apart u.length p) (hk : k < p.length) :
    (addF u (p.take k) x).set (gI p k).toNat (gI u (gI p k).toNat + x) = addF u (p.take (k + 1)) x := by
  have hb := h.1 k hk
  refine ext_gI (by simp [addF_len]) fun j hj => ?_
  simp [addF_len] at hj
  rw [gI_set (by rw [addF_len]; exact hj), gI_addF hj, gI_addF hj]
  have hm : (j : Int) ∈ p.take (k + 1) ↔ (j : Int) ∈ p.take k ∨ gI p k = j := by
    rw [mem_take, mem_take]
    constructor
    · rintro ⟨i, h1, h2, h3⟩
      by_cases e : i = k
      · subst e; exact .inr h3
      · exact .inl ⟨i, by omega, h2, h3⟩
    · rintro (⟨i, h1, h2, h3⟩ | h3)
      · exact ⟨i, by omega, h2, h3⟩
      · exact ⟨k, by omega, hk, h3⟩
  by_cases e : (gI p k).toNat = j
  · have e' : gI p k = j := by omega
    rw [if_pos e, if_pos (hm.2 (.inr e'))]
    rw [← e]
  · have e' : ¬ gI p k = j := by omega
    rw [if_neg e]
    by_cases m : (j : Int) ∈ p.take k
    · rw [if_pos m, if_pos (hm.2 (.inl m))]
    · rw [if_neg m, if_neg (fun h => (hm.1 h).elim m e')]
theorem addF_full {u p : List Int} {x : Int} : addF u (p.take p.length) x = addF u p x := by rw [List.take_length]

/-- what a reserving says: the code, and where -/
def resS (l : List (Int × Int)) (u : List Int) (x : Int) : List Int → Int → Int × Int
  | [], _ => (0, -1)
  | n :: r, c => if nC l n.toNat - gI u n.toNat < x then (c, n) else resS l u x r (c + 1)
def resF (l : List (Int × Int)) (u : List Int) (n x : Int) : Int × Int :=
  if (pathF l 3 n).length = 0 then (18, -1) else if x < 0 then (1, -1) else resS l u x (pathF l 3 n) 12
def resU (l : List (Int × Int)) (u : List Int) (n x : Int) : List Int := if (resF l u n x).1 = 0 then addF u (pathF l 3 n) x else u
theorem drop_at {p : List Int} {k : Nat} (h : k < p.length) : p.drop k = gI p k :: p.drop (k + 1) := by
  rw [List.drop_eq_getElem_cons h]; simp [gI, h]
theorem resS_no {l : List (Int × Int)} {u p : List Int} {x c : Int} {k : Nat} (h : k < p.length) (h' : nC l (gI p k).toNat - gI u (gI p k).toNat < x) : resS l u x (p.drop k) c = (c, gI p k) := by
  rw [drop_at h, resS, if_pos h']
theorem resS_go {l : List (Int × Int)} {u p : List Int} {x c : Int} {k : Nat} (h : k < p.length) (h' : ¬ nC l (gI p k).toNat - gI u (gI p k).toNat < x) : resS l u x (p.drop k) c = resS l u x (p.drop (k + 1)) (c + 1) := by
  rw [drop_at h, resS, if_neg h']
theorem resS_end {l : List (Int × Int)} {u p : List Int} {x c : Int} : resS l u x (p.drop p.length) c = (0, -1) := by rw [List.drop_length]; rfl

/-- what a releasing says -/
def relF (l : List (Int × Int)) (u : List Int) (n x : Int) : Bool := decide (0 < (pathF l 3 n).length) && decide (0 ≤ x) && (pathF l 3 n).all fun m => decide (x ≤ gI u m.toNat)
def relU (l : List (Int × Int)) (u : List Int) (n x : Int) : List Int := if relF l u n x then addF u (pathF l 3 n) (-x) else u

theorem okt_path_lt {l : List (Int × Int)} (h : Okt l) : ∀ (g : Nat) (n : Int) (i j : Nat), i < j → j < (pathF l g n).length → gI (pathF l g n) j < gI (pathF l g n) i
  | 0, n, i, j, _, hj => by simp [pathF] at hj
  | g + 1, n, i, j, hij, hj => by
    by_cases hin : inR l.length n = true
    · obtain ⟨h0, h1⟩ := inR_of hin
      have hp := h n.toNat (by omega)
      rw [pathF_in hin] at hj ⊢
      cases j with
      | zero => omega
      | succ j =>
        simp at hj
        have e1 : gI (n :: pathF l g (nP l n.toNat)) (j + 1) = gI (pathF l g (nP l n.toNat)) j := rfl
        rw [e1]
        cases i with
        | zero =>
          show _ < n
          have hin2 : inR l.length (nP l n.toNat) = true := by
            cases hh : inR l.length (nP l n.toNat) with
            | true => rfl
            | false => rw [pathF_out hh] at hj; simp at hj
          have h2 := inR_of hin2
          have hle : gI (pathF l g (nP l n.toNat)) j ≤ nP l n.toNat := by
            cases j with
            | zero =>
              cases g with
              | zero => simp [pathF] at hj
              | succ g => rw [pathF_in hin2]; exact Int.le_refl _
            | succ j =>
              have := okt_path_lt h g (nP l n.toNat) 0 (j + 1) (by omega) hj
              have e0 : gI (pathF l g (nP l n.toNat)) 0 = nP l n.toNat := by
                cases g with
                | zero => simp [pathF] at hj
                | succ g => rw [pathF_in hin2]; rfl
              omega
          omega
        | succ i => exact okt_path_lt h g _ i j (by omega) hj
    · rw [pathF_out (by simpa using hin)] at hj; simp at hj
theorem path_in {l : List (Int × Int)} : ∀ (g : Nat) (n : Int) (i : Nat), i < (pathF l g n).length → 0 ≤ gI (pathF l g n) i ∧ gI (pathF l g n) i < l.length
  | 0, n, i, h => by simp [pathF] at h
  | g + 1, n, i, h => by
    by_cases hin : inR l.length n = true
    · rw [pathF_in hin] at h ⊢
      cases i with
      | zero => exact inR_of hin
      | succ i => exact path_in g _ i (by simpa using h)
    · rw [pathF_out (by simpa using hin)] at h; simp at h
theorem apart_path {l : List (Int × Int)} (h : Okt l) {m : Nat} (hm : m = l.length) (n : Int) : Apart m (pathF l 3 n) := by
  subst hm
  exact ⟨fun i hi => path_in 3 n i hi, fun i j hij hj e => by have := okt_path_lt h 3 n i j hij hj; omega⟩
theorem path_le3 (l : List (Int × Int)) : ∀ (g : Nat) (n : Int), (pathF l g n).length ≤ g
  | 0, n => by simp [pathF]
  | g + 1, n => by
    rw [pathF]
    split
    · have := path_le3 l g (nP l n.toNat); simp; omega
    · simp
theorem okt_right {l : List (Int × Int)} {u : List Int} (h : Okt l) (h1 : 1 ≤ l.length) (h2 : l.length ≤ 32) (hu : u.length = l.length) (ho : UOk u) : rightF l u = true :=
  rightF_t (by rw [okt_chk h h1 h2]) hu ho
theorem resS_ok {l : List (Int × Int)} {u : List Int} {x : Int} : ∀ (p : List Int) (c : Int), 1 ≤ c → (resS l u x p c).1 = 0 → ∀ i, i < p.length → x ≤ nC l (gI p i).toNat - gI u (gI p i).toNat
  | [], _, _, _, i, hi => by simp at hi
  | n :: r, c, hc, h, i, hi => by
    rw [resS] at h
    split at h
    · simp at h; omega
    · rename_i hn
      cases i with
      | zero => show x ≤ nC l n.toNat - gI u n.toNat; omega
      | succ i => exact resS_ok r (c + 1) (by omega) h i (by simpa using hi)
theorem uok_res {l : List (Int × Int)} {u : List Int} (hl : Okt l) (hu : u.length = l.length) (ho : UOk u) (n x : Int) : UOk (resU l u n x) ∧ (resU l u n x).length = u.length := by
  unfold resU
  by_cases h : (resF l u n x).1 = 0
  · rw [if_pos h]
    refine ⟨fun j hj => ?_, addF_len _ _ _⟩
    rw [addF_len] at hj
    rw [gI_addF hj]
    have hb := ho j hj
    split
    · rename_i hm
      obtain ⟨i, _, hi, he⟩ := (mem_take (k := (pathF l 3 n).length)).1 (by rw [List.take_length]; exact hm)
      unfold resF at h
      split at h
      · simp at h
      · split at h
        · simp at h
        · have h1 := resS_ok _ _ (by decide) h i hi
          rw [he, Int.toNat_natCast] at h1
          have h2 := hl j (by omega)
          omega
    · exact hb
  · rw [if_neg h]; exact ⟨ho, rfl⟩
theorem uok_rel {l : List (Int × Int)} {u : List Int} (ho : UOk u) (n x : Int) : UOk (relU l u n x) ∧ (relU l u n x).length = u.length := by
  unfold relU
  by_cases h : relF l u n x = true
  · rw [if_pos h]
    refine ⟨fun j hj => ?_, addF_len _ _ _⟩
    rw [addF_len] at hj
    rw [gI_addF hj]
    have hb := ho j hj
    simp only [relF, Bool.and_eq_true, decide_eq_true_eq, List.all_eq_true] at h
    split
    · rename_i hm
      have := h.2 _ hm
      rw [Int.toNat_natCast] at this
      omega
    · exact hb
  · rw [if_neg h]; exact ⟨ho, rfl⟩
theorem uok_wf {u : List Int} (h : UOk u) : WfI u := fun i hi => by have := h i hi; exact ⟨by omega, by omega⟩

/-- another cap -/
def limF (l : List (Int × Int)) (n m : Int) : Int := if inR l.length n = true then (if m < 0 ∨ 4611686018427387904 < m then 1 else 0) else 18
def limL (l : List (Int × Int)) (n m : Int) : List (Int × Int) := if limF l n m = 0 then l.set n.toNat (nP l n.toNat, m) else l
theorem path_none {l : List (Int × Int)} (n : Int) : (pathF l 3 n).length = 0 ↔ inR l.length n = false := by
  constructor
  · intro h
    cases hh : inR l.length n with
    | false => rfl
    | true => rw [pathF_in hh] at h; simp at h
  · intro h; rw [pathF_out h]; rfl
theorem nP_set {l : List (Int × Int)} {k j : Nat} {m : Int} : nP (l.set k (nP l k, m)) j = nP l j := by
  unfold nP
  by_cases e : k = j
  · subst e
    by_cases hk : k < l.length
    · simp [hk]
    · simp [List.getElem?_eq_none (Nat.le_of_not_lt hk), hk]
  · simp [List.getElem?_set, e]
theorem nC_set {l : List (Int × Int)} {k j : Nat} {m : Int} (h : j < l.length) : nC (l.set k (nP l k, m)) j = if k = j then m else nC l j := by
  unfold nC
  by_cases e : k = j
  · subst e; simp [h]
  · simp [List.getElem?_set, e]
theorem top_set {l : List (Int × Int)} {k : Nat} {m : Int} : ∀ (d a : Nat), top (l.set k (nP l k, m)) d a = top l d a
  | 0, _ => rfl
  | d + 1, a => by rw [top, top, nP_set, top_set d]
theorem okt_lim {l : List (Int × Int)} (h : Okt l) (n m : Int) : Okt (limL l n m) ∧ (limL l n m).length = l.length := by
  unfold limL limF
  by_cases hi : inR l.length n = true
  · rw [if_pos hi]
    by_cases hm : m < 0 ∨ 4611686018427387904 < m
    · rw [if_pos hm, if_neg (by decide)]; exact ⟨h, rfl⟩
    · rw [if_neg hm, if_pos rfl]
      refine ⟨fun i hi' => ?_, by simp⟩
      rw [List.length_set] at hi'
      have := h i hi'
      rw [nP_set, nC_set hi', top_set]
      refine ⟨this.1, this.2.1, ?_, ?_, this.2.2.2.2⟩
      · split <;> omega
      · split <;> omega
  · rw [if_neg hi, if_neg (by decide)]; exact ⟨h, rfl⟩
end Go.Proofs.Ytkmkaidhpbjbnaa.Cpl
