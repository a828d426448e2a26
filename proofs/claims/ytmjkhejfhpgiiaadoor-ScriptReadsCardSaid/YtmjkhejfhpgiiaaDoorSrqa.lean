/- Texts side by side. -/
import Derived.Below
import Derived.Carry
import Derived.OwnWalk
import Derived.Laws.OwnMore
import Derived.Laws.MakeOwn
import Derived.Deep.Slices
import Derived.Deep.SlicePairs
import Derived.Deep.Draws
import Derived.ChangeSame
import Derived.ProofKit
import Derived.Lib.Hide
import Derived.WalkKit
import Derived.OpenShut
import Derived.Outline
import Derived.LoopTactic
import Derived.Deep.LoopGhost
import Derived.BigQuiet
import Derived.Deep.QuietTactic
import Derived.RegionTactic
import Derived.Deep.RegionLaw
import Derived.WalkSpells
import Derived.Deep.RegionWith
import Derived.Lib.LazyBuf
import Derived.Deep.RegionHeld3
import Derived.Test.YtmjkhejfhpgiiaaDoorRows
set_option linter.unusedVariables false
set_option linter.unusedSimpArgs false
set_option maxRecDepth 100000
set_option maxHeartbeats 16000000
namespace Go.Proofs.YtmjkhejfhpgiiaaDoor.Ref3
end Go.Proofs.YtmjkhejfhpgiiaaDoor.Ref3
namespace Go.Proofs.YtmjkhejfhpgiiaaDoor.Opn
end Go.Proofs.YtmjkhejfhpgiiaaDoor.Opn
namespace Go.Proofs.YtmjkhejfhpgiiaaDoor.Rul3
end Go.Proofs.YtmjkhejfhpgiiaaDoor.Rul3
namespace Go.Proofs.YtmjkhejfhpgiiaaDoor.Crd
end Go.Proofs.YtmjkhejfhpgiiaaDoor.Crd
namespace Go.Proofs.YtmjkhejfhpgiiaaDoor.Cpl
end Go.Proofs.YtmjkhejfhpgiiaaDoor.Cpl
namespace Go.Proofs.YtmjkhejfhpgiiaaDoor.Own
end Go.Proofs.YtmjkhejfhpgiiaaDoor.Own
namespace Go.Proofs.YtmjkhejfhpgiiaaDoor.Rel
end Go.Proofs.YtmjkhejfhpgiiaaDoor.Rel
namespace Go.Proofs.YtmjkhejfhpgiiaaDoor.Lim
end Go.Proofs.YtmjkhejfhpgiiaaDoor.Lim
namespace Go.Proofs.YtmjkhejfhpgiiaaDoor.Sm4
end Go.Proofs.YtmjkhejfhpgiiaaDoor.Sm4
namespace Go.Proofs.YtmjkhejfhpgiiaaDoor.Fr4
end Go.Proofs.YtmjkhejfhpgiiaaDoor.Fr4
namespace Go.Proofs.YtmjkhejfhpgiiaaDoor.Rsf
end Go.Proofs.YtmjkhejfhpgiiaaDoor.Rsf
namespace Go.Proofs.YtmjkhejfhpgiiaaDoor.To4
end Go.Proofs.YtmjkhejfhpgiiaaDoor.To4
namespace Go.Proofs.YtmjkhejfhpgiiaaDoor.Wrd
end Go.Proofs.YtmjkhejfhpgiiaaDoor.Wrd
namespace Go.Proofs.YtmjkhejfhpgiiaaDoor.Wdp
end Go.Proofs.YtmjkhejfhpgiiaaDoor.Wdp
namespace Go.Proofs.YtmjkhejfhpgiiaaDoor.Wde
end Go.Proofs.YtmjkhejfhpgiiaaDoor.Wde
namespace Go.Proofs.YtmjkhejfhpgiiaaDoor.Bcl
end Go.Proofs.YtmjkhejfhpgiiaaDoor.Bcl
namespace Go.Proofs.YtmjkhejfhpgiiaaDoor.Bku
end Go.Proofs.YtmjkhejfhpgiiaaDoor.Bku
namespace Go.Proofs.YtmjkhejfhpgiiaaDoor.Bkf
end Go.Proofs.YtmjkhejfhpgiiaaDoor.Bkf
namespace Go.Proofs.YtmjkhejfhpgiiaaDoor.Bkh
end Go.Proofs.YtmjkhejfhpgiiaaDoor.Bkh
namespace Go.Proofs.YtmjkhejfhpgiiaaDoor.Bka
end Go.Proofs.YtmjkhejfhpgiiaaDoor.Bka
namespace Go.Proofs.YtmjkhejfhpgiiaaDoor.Bkc
end Go.Proofs.YtmjkhejfhpgiiaaDoor.Bkc
namespace Go.Proofs.YtmjkhejfhpgiiaaDoor.Mdz
end Go.Proofs.YtmjkhejfhpgiiaaDoor.Mdz
namespace Go.Proofs.YtmjkhejfhpgiiaaDoor.Mds
end Go.Proofs.YtmjkhejfhpgiiaaDoor.Mds
namespace Go.Proofs.YtmjkhejfhpgiiaaDoor.Cfr
end Go.Proofs.YtmjkhejfhpgiiaaDoor.Cfr
namespace Go.Proofs.YtmjkhejfhpgiiaaDoor.Bkj
end Go.Proofs.YtmjkhejfhpgiiaaDoor.Bkj
namespace Go.Proofs.YtmjkhejfhpgiiaaDoor.Fown
end Go.Proofs.YtmjkhejfhpgiiaaDoor.Fown
namespace Go.Proofs.YtmjkhejfhpgiiaaDoor.Wec
end Go.Proofs.YtmjkhejfhpgiiaaDoor.Wec
namespace Go.Proofs.YtmjkhejfhpgiiaaDoor.Wkp
end Go.Proofs.YtmjkhejfhpgiiaaDoor.Wkp
namespace Go.Proofs.YtmjkhejfhpgiiaaDoor.Rul4
end Go.Proofs.YtmjkhejfhpgiiaaDoor.Rul4
namespace Go.Proofs.YtmjkhejfhpgiiaaDoor.Opc
end Go.Proofs.YtmjkhejfhpgiiaaDoor.Opc
namespace Go.Proofs.YtmjkhejfhpgiiaaDoor
namespace Mem
open Go.ChangeShapes Go.WideShapes Go.RowKit
def Rd (w : World) (B : Nat) (A : Option Addr) (xs : List Value) : Prop :=
  xs = [] ∨ ∃ b o, A = some ⟨b, o, none⟩ ∧ b < B ∧ ∀ i v, xs[i]? = some v → w.cell? ⟨b, o + i, none⟩ = some v
section
variable {w w' : World} {B B' : Nat} {A : Option Addr} {xs ys : List Value}
theorem Rd.nil : Rd w B A [] := .inl rfl
theorem Rd.at (h : Rd w B A xs) (hx : xs ≠ []) : ∃ b o, A = some ⟨b, o, none⟩ ∧ b < B ∧ ∀ i v, xs[i]? = some v → w.cell? ⟨b, o + i, none⟩ = some v :=
  h.resolve_left hx
theorem Rd.keep (h : Rd w B A xs) (hk : ∀ p : Addr, p.block < B → w'.cell? p = w.cell? p) : Rd w' B A xs := by
  rcases h with h | ⟨b, o, hA, hb, hc⟩
  · exact .inl h
  · exact .inr ⟨b, o, hA, hb, fun i v hi => (hk _ hb).trans (hc i v hi)⟩
theorem Rd.more (h : Rd w B A xs) (hB : B ≤ B') : Rd w B' A xs := by
  rcases h with h | ⟨b, o, hA, hb, hc⟩
  · exact .inl h
  · exact .inr ⟨b, o, hA, by omega, hc⟩
theorem Rd.below (h : Rd w B A xs) (hb : Below B w w') : Rd w' B A xs := h.keep fun _ hp => hb.cell hp
theorem Rd.below' (h : Rd w B A xs) (hb : Below B w w') (hB : B ≤ B') : Rd w' B' A xs := (h.below hb).more hB
theorem Rd.of_own {base : Nat} {e : TypeId} {size n c : Nat} (h : w.ownsRow base e size (.slice A n c) n xs) : Rd w w.heap.size A xs := by
  rcases h.2 with ⟨hv, hn⟩ | ⟨g, cap, cur, hv, hg, hh, h1, h2, h3, h4⟩
  · have := h.1
    rw [hn, Nat.zero_mul] at this
    exact .inl (List.eq_nil_of_length_eq_zero this)
  · injection hv with hA
    subst hA
    refine .inr ⟨g, 0, rfl, (Array.getElem?_eq_some_iff.1 hh).1, fun i v hi => ?_⟩
    have := World.ownsRow.cells h (g := g) rfl i v hi
    rwa [show (⟨g, 0, none⟩ : Addr).add i = ⟨g, 0 + i, none⟩ by unfold Addr.add; split <;> simp_all] at this
theorem own_form {base : Nat} {e : TypeId} {size n : Nat} {v : Value} (h : w.ownsRow base e size v n xs) : ∃ A c, v = .slice A n c ∧ Rd w w.heap.size A xs := by
  have hv : ∃ A c, v = .slice A n c := by
    rcases h.2 with ⟨rfl, rfl⟩ | ⟨g, cap, cur, rfl, _⟩
    · exact ⟨_, _, rfl⟩
    · exact ⟨_, _, rfl⟩
  obtain ⟨A, c, rfl⟩ := hv
  exact ⟨A, c, rfl, Rd.of_own h⟩
theorem Below.drewN' {a b : World} (h : Below B a b) (n : Nat) : Below B a (b.drewN n) := ⟨h.os, h.tape, h.output, h.size, h.block⟩
theorem Rd.drewN (h : Rd w B A xs) (n : Nat) : Rd (w.drewN n) B A xs := h
theorem Rd.drew (h : Rd w B A xs) : Rd w.drew B A xs := h
theorem Rd.alloc (h : Rd w B A xs) (hB : B ≤ w.heap.size) (o : Obj) : Rd (w.alloc o) B A xs := h.below ((Below.refl _ _).alloc hB o)
end
def ints (xs : List Int) : List Value := xs.map (.int .i64)
def gI (xs : List Int) (i : Nat) : Int := xs.getD i 0
def Ris (w : World) (B : Nat) (A : Option Addr) (xs : List Int) : Prop := Rd w B A (ints xs)
theorem ints_len (xs : List Int) : (ints xs).length = xs.length := by simp [ints]
theorem Ris.at {w : World} {B : Nat} {A : Option Addr} {xs : List Int} {i : Nat} (h : Ris w B A xs) (hi : i < xs.length) :
    ∃ b o, A = some ⟨b, o, none⟩ ∧ b < B ∧ ∀ j, j < xs.length → w.cell? ⟨b, o + j, none⟩ = some (.int .i64 (gI xs j)) := by
  obtain ⟨b, o, hA, hb, hc⟩ := Rd.at h (by intro e; have := ints_len xs; rw [e] at this; simp at this; omega)
  refine ⟨b, o, hA, hb, fun j hj => hc j _ ?_⟩
  simp [ints, gI, hj]
def nP (l : List (Int × Int)) (i : Nat) : Int := (l.getD i (0, 0)).1
def nC (l : List (Int × Int)) (i : Nat) : Int := (l.getD i (0, 0)).2
def ndV (p : Int × Int) : List Value := [.int .i64 p.1, .int .i64 p.2]
def nds (l : List (Int × Int)) : List Value := l.flatMap ndV
def Nds (w : World) (B : Nat) (A : Option Addr) (l : List (Int × Int)) : Prop := Rd w B A (nds l)
theorem nds_len (l : List (Int × Int)) : (nds l).length = l.length * 2 := by
  induction l with
  | nil => rfl
  | cons p l ih => simp [nds, ndV] at ih ⊢; omega
theorem nds_snoc (l : List (Int × Int)) (p : Int × Int) : nds (l ++ [p]) = nds l ++ [.int .i64 p.1, .int .i64 p.2] := by simp [nds, ndV]
theorem nds_get (l : List (Int × Int)) (i : Nat) (hi : i < l.length) : (nds l)[i * 2]? = some (.int .i64 (nP l i)) ∧ (nds l)[i * 2 + 1]? = some (.int .i64 (nC l i)) := by
  induction l generalizing i with
  | nil => simp at hi
  | cons p l ih =>
    cases i with
    | zero => simp [nds, ndV, nP, nC]
    | succ i =>
      have := ih i (by simpa using hi)
      have e1 : (i + 1) * 2 = i * 2 + 1 + 1 := by omega
      rw [e1]
      simpa [nds, ndV, nP, nC] using this
theorem Nds.at {w : World} {B : Nat} {A : Option Addr} {l : List (Int × Int)} (h : Nds w B A l) (hi : 0 < l.length) :
    ∃ b o, A = some ⟨b, o, none⟩ ∧ b < B ∧ ∀ j, j < l.length → w.cell? ⟨b, o + j * 2, none⟩ = some (.int .i64 (nP l j)) ∧ w.cell? ⟨b, o + j * 2 + 1, none⟩ = some (.int .i64 (nC l j)) := by
  obtain ⟨b, o, hA, hb, hc⟩ := Rd.at h (by intro e; have := nds_len l; rw [e] at this; simp at this; omega)
  refine ⟨b, o, hA, hb, fun j hj => ?_⟩
  have := nds_get l j hj
  exact ⟨hc _ _ this.1, by have := hc _ _ this.2; rwa [Nat.add_assoc]⟩
def inI (x : Int) : Prop := -9223372036854775808 ≤ x ∧ x ≤ 9223372036854775807
def WfN (l : List (Int × Int)) : Prop := ∀ i, i < l.length → inI (nP l i) ∧ inI (nC l i)
theorem one_cells {w : World} {cs : Array Value} {te : TypeId} {news : List Value} (hn : cs.toList = news) :
    ∀ j u, news[j]? = some u → (w.alloc (.cells cs te)).cell? ((⟨w.heap.size, 0, none⟩ : Addr).add j) = some u := by
  intro j u hj
  subst hn
  have e : (⟨w.heap.size, 0, none⟩ : Addr).add j = ⟨w.heap.size, j, none⟩ := by unfold Addr.add; split <;> simp_all
  rw [e, cell_of_row (w.alloc (.cells cs te)) w.heap.size j cs te (0, 0) (heap_alloc_new w _)]
  simpa using hj
theorem own_drew {w : World} {base : Nat} {e : TypeId} {size n : Nat} {v : Value} {xs : List Value} (h : Hid (w.ownsRow base e size v n xs)) : Hid (w.drew.ownsRow base e size v n xs) := h
theorem rd_new {w : World} {cs : Array Value} {te : TypeId} {xs : List Value} (h : cs.toList = xs) : Rd (w.alloc (.cells cs te)) (w.alloc (.cells cs te)).heap.size (some ⟨w.heap.size, 0, none⟩) xs := by
  refine .inr ⟨w.heap.size, 0, rfl, by simp, fun i v hv => ?_⟩
  have := one_cells (w := w) (te := te) h i v hv
  rwa [show (⟨w.heap.size, 0, none⟩ : Addr).add i = ⟨w.heap.size, 0 + i, none⟩ by unfold Addr.add; split <;> simp_all] at this
theorem own_below {w w' : World} {base : Nat} {e : TypeId} {size n : Nat} {v : Value} {xs : List Value} (h : Hid (w.ownsRow base e size v n xs)) (hb : Below w.heap.size w w') : Hid (w'.ownsRow base e size v n xs) :=
  World.ownsRow.kept (row := none) h.out ⟨hb.os, hb.tape, hb.output, hb.size, fun k hk _ => hb.block k hk⟩ (by cases v.ownBlock <;> simp)
def Blk (w : World) (g : Nat) (te : TypeId) (cs : Array Value) : Prop := w.heap[g]? = some (.cells cs te (0, 0))
section
variable {w w' : World} {g : Nat} {te : TypeId} {cs : Array Value} {B : Nat}
theorem Blk.fresh (w : World) (te : TypeId) (cs : Array Value) : Blk (w.alloc (.cells cs te)) w.heap.size te cs := heap_alloc_new w _
theorem Blk.lt (h : Blk w g te cs) : g < w.heap.size := (Array.getElem?_eq_some_iff.1 h).1
theorem Blk.alloc (h : Blk w g te cs) (o : Obj) : Blk (w.alloc o) g te cs := (Below.heap_alloc w o g h.lt).trans h
theorem Blk.below (h : Blk w g te cs) (hb : Below B w w') (hg : g < B) : Blk w' g te cs := (hb.block g hg).trans h
theorem Blk.below' (h : Blk w g te cs) (hb : Below w.heap.size w w') : Blk w' g te cs := h.below hb h.lt
theorem Blk.drewN (h : Blk w g te cs) (n : Nat) : Blk (w.drewN n) g te cs := h
theorem Blk.cell (h : Blk w g te cs) (i : Nat) : w.cell? ⟨g, i, none⟩ = cs[i]? := cell_of_row w g i cs te (0, 0) h
theorem Blk.thaw (h : Blk w g te cs) (i : Nat) : w.frozen? ⟨g, i, none⟩ = false := by
  unfold Blk at h
  simp [World.frozen?, h]
theorem Blk.rd {xs : List Value} (h : Blk w g te cs) (hx : cs.toList = xs) (hg : g < B) : Rd w B (some ⟨g, 0, none⟩) xs := by
  refine .inr ⟨g, 0, rfl, hg, fun i v hi => ?_⟩
  subst hx
  rw [h.cell, Nat.zero_add]
  simpa using hi
theorem Blk.rd' {xs : List Value} (h : Blk w g te cs) (hx : cs.toList = xs) : Rd w w.heap.size (some ⟨g, 0, none⟩) xs := h.rd hx h.lt
end
theorem run_appNil {P : Program} (w : World) (base : Nat) (t ty e : TypeId) (i : TypeInfo) (size : Nat) (ht : P.underlying t = some (.slice e)) (hi : P.info? e = some i)
    (v : Value) (n : Nat) (xs : List Value) (hown : w.ownsRow base e size v n xs) (c : Nat) : (Builtin.append_ #[t, t] ty #[v, .slice none 0 c]).run P w = .ok v w := by
  rcases hown.2 with ⟨h1, h2⟩ | ⟨g, cap, cur, h1, h2, h3, h4, h5⟩
  · subst h1; subst h2
    simp [Builtin.append_, run_underlying ht, sizeOf, typeInfo, hi, Builtin.lenOf, Builtin.firstCells]
  · subst h1
    simp [Builtin.append_, run_underlying ht, sizeOf, typeInfo, hi, Builtin.lenOf, Builtin.firstCells, h4, storeCells]
theorem ints_one (xs : List Int) : ∀ u ∈ ints xs, u.oneCell' = true := by
  intro u hu
  simp only [ints, List.mem_map] at hu
  obtain ⟨x, _, rfl⟩ := hu
  rfl
theorem own_empty {w : World} {g : Nat} {te : TypeId} {base size : Nat} (h : Blk w g te #[]) (hb : base ≤ g) : w.ownsRow base te size (.slice (some ⟨g, 0, none⟩) 0 0) 0 [] :=
  ⟨by simp, .inr ⟨g, 0, #[], rfl, hb, h, Nat.le_refl _, by unfold maxLen; omega, by simp, by simp⟩⟩
section
variable {H : Type} {enc : TypeId × Value → H} {P : Program} {w : World}
theorem spot_none {w : World} {b o : Nat} {s : Option Nat} {v : Value} (h : w.cell? ((⟨b, o, s⟩ : Addr).add 0) = some v) : s = none := by
  cases s with
  | none => rfl
  | some k =>
    exfalso
    unfold World.cell? Addr.add at h
    simp only [if_true] at h
    split at h
    · simp at h
    · cases h
theorem add_lit' (b o n : Nat) : (⟨b, o, none⟩ : Addr).add n = ⟨b, o + n, none⟩ := by
  unfold Addr.add
  split
  · subst_vars; rfl
  · rfl
theorem blk_lt {w : World} {a : Addr} {v : Value} (h : w.cell? a = some v) : a.block < w.heap.size := World.block_lt_of_cell? w a h
theorem trodAll_below (hl : laidOutB P = true) {W W' : World} (hb : Below W.heap.size W W') : ∀ (ts : List TypeId) (vs : List Value) (ds : List (DataW H)) (ps : List MemPlace),
    (∀ t ∈ ts, P.readableRec t = true ∧ t < P.types.size) → DataW.TrodAll enc P W 0 (fun _ => true) true ts vs ds ps → (∀ x ∈ ps, x.block < W.heap.size) →
    DataW.TrodAll enc P W' 0 (fun b => decide (b < W.heap.size)) true ts vs ds ps
  | [], [], [], ps, _, h, _ => h
  | t :: ts, v :: vs, d :: ds, ps, hr, h, hlt => by
    obtain ⟨p, q, h1, h2, rfl⟩ := h
    have ht := hr t (by simp)
    exact ⟨p, q, Below.trod hl ht.1 ht.2 h1 hb (fun x hx => hlt x (List.mem_append_left _ hx)),
      trodAll_below hl hb ts vs ds q (fun t' ht' => hr t' (by simp [ht'])) h2 (fun x hx => hlt x (List.mem_append_right _ hx)), rfl⟩
  | [], _ :: _, _, _, _, h, _ => h.elim
  | [], [], _ :: _, _, _, h, _ => h.elim
  | _ :: _, [], _, _, _, h, _ => h.elim
  | _ :: _, _ :: _, [], _, _, h, _ => h.elim
theorem law_post {f : Func} {s : ChangeSpec} {W W' : World} {args : Array Value} {ds gs : List (DataW H)} {before : List MemPlace} {tb : TypeId}
    (hW : DataW.Whole enc P f.params.toList s.vars false W args.toList ds gs before) (hv : s.vars = [])
    (hfn : (s.fn H ds).results = [.lit (.bool true)]) (hfa : (s.fn H ds).args = ds) (hfv : (s.fn H ds).vars = [])
    (hrt : f.resultTypes = #[tb]) (hu : P.underlying tb = some .bool) (hread : ∀ t ∈ f.params.toList, P.readableRec t = true ∧ t < P.types.size) (hl : laidOutB P = true)
    (hb : Below W.heap.size W W') : s.post enc P f false true false false W args (.bool true) W' := by
  have hW0 := hW
  obtain ⟨p, q, hA, hV, rfl, _, _⟩ := hW
  have hgs : gs = [] ∧ q = [] := by
    rw [hv] at hV
    exact trodVars_none hV
  obtain ⟨rfl, rfl⟩ := hgs
  simp only [List.append_nil] at hW0 ⊢
  have hlt : ∀ x ∈ p, x.block < W.heap.size := fun x hx => hW0.lt x hx
  refine ⟨ds, [], p, [], p, [], hW0, ?_, ?_, ?_, hb.frame _, fun h => by cases h⟩
  · rw [List.append_nil, hfn, hrt]
    exact trodAll_mk1 (shut_bool hu true)
  · rw [List.append_nil, hfa]
    exact trodAll_below hl hb _ _ _ _ hread hA hlt
  · rw [List.append_nil, hfv, hv]
    rfl
end
end Mem
namespace Wpl
open Go.RowKit Mem
def bts (l : List UInt8) : List Value := l.map fun b => Value.int .u8 (b.toNat : Int)
theorem bts_len (l : List UInt8) : (bts l).length = l.length := by simp [bts]
theorem bts_app (l r : List UInt8) : bts (l ++ r) = bts l ++ bts r := by simp [bts]
theorem bts_one (l : List UInt8) : ∀ v ∈ bts l, v.oneCell' = true := by
  intro v hv
  obtain ⟨b, _, rfl⟩ := List.mem_map.1 hv
  simp [Value.oneCell']
def By (w : World) (B : Nat) (A : Option Addr) (l : List UInt8) : Prop := Rd w B A (bts l)
theorem By.at {w : World} {B : Nat} {A : Option Addr} {l : List UInt8} (h : By w B A l) {i : Nat} (hi : i < l.length) :
    ∃ b o, A = some ⟨b, o, none⟩ ∧ b < B ∧ ∀ j (hj : j < l.length), w.cell? ⟨b, o + j, none⟩ = some (.int .u8 (l[j].toNat : Int)) := by
  obtain ⟨b, o, hA, hb, hc⟩ := Rd.at h (by intro e; have := bts_len l; rw [e] at this; simp at this; omega)
  exact ⟨b, o, hA, hb, fun j hj => hc j _ (by simp [bts, hj])⟩
def byt (n i : Nat) : UInt8 := UInt8.ofNat (n / 256 ^ i % 256)
def putB (n : Nat) : Nat → List UInt8
  | 0 => []
  | s + 1 => byt n s :: putB n s
structure M where
  k : Int
  a : Int
  s : Int
  x : Bool
  p : Int
  q : Int
  n : Int
  t : Int
  i : Int
  y : Int
  z : Int
  v : Int
def mvs (m : M) : List Value := [.int .i64 m.k, .int .i64 m.a, .int .i64 m.s, .bool m.x, .int .i64 m.p, .int .i64 m.q, .int .i64 m.n, .int .i64 m.t, .int .i64 m.i, .int .i64 m.y, .int .i64 m.z, .int .i64 m.v]
def mvl (m : M) : Value := .agg #[.int .i64 m.k, .int .i64 m.a, .int .i64 m.s, .bool m.x, .int .i64 m.p, .int .i64 m.q, .int .i64 m.n, .int .i64 m.t, .int .i64 m.i, .int .i64 m.y, .int .i64 m.z, .int .i64 m.v]
def m0 : M := ⟨0, 0, 0, false, 0, 0, 0, 0, 0, 0, 0, 0⟩
def eqM (m n : M) : Bool := m.k == n.k && (m.a == n.a && (m.s == n.s && (m.x == n.x && (m.p == n.p && (m.q == n.q && (m.n == n.n && m.t == n.t)))))) && (m.i == n.i && (m.y == n.y && (m.z == n.z && m.v == n.v)))
theorem eqM_iff (m n : M) : eqM m n = true ↔ m = n := by
  constructor
  · intro h
    simp only [eqM, Bool.and_eq_true, beq_iff_eq] at h
    obtain ⟨⟨h0, h1, h2, h3, h4, h5, h6, h7⟩, h8, h9, h10, h11⟩ := h
    cases m
    cases n
    simp only at h0 h1 h2 h3 h4 h5 h6 h7 h8 h9 h10 h11
    subst h0 h1 h2 h3 h4 h5 h6 h7 h8 h9 h10 h11
    rfl
  · rintro rfl
    simp [eqM]
theorem eqM_self (m : M) : eqM m m = true := (eqM_iff m m).2 rfl
def alM (m : M) : M :=
  if m.k = 0 then { m0 with k := m.k, a := m.a, s := m.s, x := m.x, p := m.p, q := m.q, n := m.n, t := m.t }
  else if m.k = 1 ∨ m.k = 3 then { m0 with k := m.k, i := m.i }
  else if m.k = 2 then { m0 with k := m.k, i := m.i, y := m.y }
  else if m.k = 6 then { m0 with k := m.k, z := m.z, v := m.v }
  else { m0 with k := m.k }
def fitP (m : M) : Prop := (0 ≤ m.a ∧ m.a ≤ 65535) ∧ (0 ≤ m.s ∧ m.s ≤ 65535) ∧ (0 ≤ m.z ∧ m.z ≤ 65535) ∧ (0 ≤ m.i ∧ m.i ≤ 4294967295) ∧ 0 ≤ m.p ∧ 0 ≤ m.q ∧ 0 ≤ m.n ∧ 0 ≤ m.t ∧ 0 ≤ m.y ∧ 0 ≤ m.v
def fitM (m : M) : Bool := decide ((0 ≤ m.a ∧ m.a ≤ 65535) ∧ (0 ≤ m.s ∧ m.s ≤ 65535) ∧ (0 ≤ m.z ∧ m.z ≤ 65535) ∧ (0 ≤ m.i ∧ m.i ≤ 4294967295) ∧ 0 ≤ m.p ∧ 0 ≤ m.q ∧ 0 ≤ m.n ∧ 0 ≤ m.t ∧ 0 ≤ m.y ∧ 0 ≤ m.v)
theorem fitM_of {m : M} (h : fitM m = true) : fitP m := by
  unfold fitM at h
  unfold fitP
  simp only [decide_eq_true_eq] at h
  exact h
def rightM (m : M) : Bool := (decide (0 ≤ m.k) && decide (m.k ≤ 6)) && (eqM m (alM m) && fitM m)
theorem rightM_of {m : M} (h : rightM m = true) : 0 ≤ m.k ∧ m.k ≤ 6 ∧ m = alM m ∧ fitP m := by
  unfold rightM at h
  simp only [Bool.and_eq_true, decide_eq_true_eq] at h
  exact ⟨h.1.1, h.1.2, (eqM_iff _ _).1 h.2.1, fitM_of h.2.2⟩
def WfM (m : M) : Prop := inI m.k ∧ inI m.a ∧ inI m.s ∧ inI m.p ∧ inI m.q ∧ inI m.n ∧ inI m.t ∧ inI m.i ∧ inI m.y ∧ inI m.z ∧ inI m.v
end Wpl
namespace Tre
open Go.ChangeShapes Go.WideShapes Go.ChangeAt Go.RowKit Mem
def inR (n : Nat) (k : Int) : Bool := decide (0 ≤ k) && decide (k < n)
theorem inR_t {n : Nat} {k : Int} (h : 0 ≤ k) (h' : k < n) : inR n k = true := by unfold inR; simp [h, h']
theorem inR_f {n : Nat} {k : Int} (h : k < 0 ∨ n ≤ k) : inR n k = false := by unfold inR; simp; omega
theorem inR_of {n : Nat} {k : Int} (h : inR n k = true) : 0 ≤ k ∧ k < n := by unfold inR at h; simpa using h
def top (l : List (Int × Int)) : Nat → Nat → Bool
  | 0, _ => false
  | d + 1, a => nP l a == -1 || top l d (nP l a).toNat
def Par (l : List (Int × Int)) : Prop := ∀ i, i < l.length → -1 ≤ nP l i ∧ nP l i < l.length
def climbF (l : List (Int × Int)) : Nat → Nat → Int × Int
  | 0, _ => (0, -1)
  | g + 1, k => if top l 3 k then climbF l g (k + 1) else (16, k)
def scanF (l : List (Int × Int)) : Nat → Nat → Int × Int
  | 0, _ => climbF l l.length 0
  | g + 1, k => if nP l k = -1 ∨ inR l.length (nP l k) = true then (if 0 ≤ nC l k ∧ nC l k ≤ 4611686018427387904 then scanF l g (k + 1) else (1, k)) else (18, k)
def chk (l : List (Int × Int)) : Int × Int :=
  if 32 < l.length then (11, 0) else if l.length = 0 then (1, 0) else scanF l l.length 0
theorem top_m1 {l : List (Int × Int)} {g a : Nat} (h : nP l a = -1) : top l (g + 1) a = true := by unfold top; simp [h]
theorem top_up {l : List (Int × Int)} {g a : Nat} (h : (nP l a == -1) = false) : top l (g + 1) a = top l g (nP l a).toNat := by
  rw [top, h]; simp
def pathF (l : List (Int × Int)) : Nat → Int → List Int
  | 0, _ => []
  | g + 1, n => if inR l.length n then n :: pathF l g (nP l n.toNat) else []
def ToldB (b : Bool) (w : World) (e : Ending) (w' : World) : Prop := e = .returned (.bool b) ∧ w = w'
def Told2 (p : Int × Int) (w : World) (e : Ending) (w' : World) : Prop := e = .returned (.tuple #[.int .i64 p.1, .int .i64 p.2]) ∧ w = w'
def Made2 (p : Int × Int) (w : World) (e : Ending) (w' : World) : Prop := e = .returned (.tuple #[.int .i64 p.1, .int .i64 p.2]) ∧ Below w.heap.size w w'
theorem told2 {p : Int × Int} {a b : Int} {w : World} (h : p = (a, b)) : Told2 p w (.returned (.tuple #[.int .i64 a, .int .i64 b])) w := by subst h; exact ⟨rfl, rfl⟩
theorem made2 {p : Int × Int} {a b : Int} {w w' : World} (h : p = (a, b)) (hb : Below w.heap.size w w') : Made2 p w (.returned (.tuple #[.int .i64 a, .int .i64 b])) w' := by subst h; exact ⟨rfl, hb⟩
theorem has_any (A : Option Addr) (n c : Nat) (k : Int) (w : World) :
    Calls Tryd.prog 30 #[.slice A n c, .int .i64 k] w (ToldB (inR n k) w) := by
  by_cases h0 : 0 ≤ k
  · by_cases h1 : k < n
    · go_enter Tryd.func30, Tryd.ntmps30
      go_wp2
      go_ret
      exact ⟨by rw [inR_t h0 h1]; rfl, rfl⟩
    · go_enter Tryd.func30, Tryd.ntmps30
      go_wp2
      go_ret
      exact ⟨by rw [inR_f (by omega)]; rfl, rfl⟩
  · go_enter Tryd.func30, Tryd.ntmps30
    go_wp2
    go_ret
    exact ⟨by rw [inR_f (by omega)]; rfl, rfl⟩
theorem climb_any (b o c : Nat) (l : List (Int × Int)) (w : World) (hn : l.length ≤ 32) (hpar : Hid (Par l))
    (hp : Hid (∀ i, i < l.length → w.cell? ⟨b, o + i * 2, none⟩ = some (.int .i64 (nP l i)))) :
    Calls Tryd.prog 31 #[.slice (some ⟨b, o, none⟩) l.length c] w (Told2 (climbF l l.length 0) w) := by
  go_enter Tryd.func31, Tryd.ntmps31
  go_wp2
  go_step3
  go_wp2
  go_step3
  go_wp2
  go_loopg [8] l.length (fun g s8 w' => ∃ k : Nat, k + g = l.length ∧ s8 = .int .i64 k ∧ Hid (climbF l g k = climbF l l.length 0) ∧ w = w')
  case atStart => exact ⟨0, by omega, rfl, rfl, rfl⟩
  case round =>
    obtain ⟨k, hk, rfl, hall, rfl⟩ := hrel
    obtain ⟨g0, rfl⟩ : ∃ g : Nat, g = gk := ⟨_, rfl⟩
    by_cases hlt : (k : Int) < (l.length : Int)
    · go_wp2
      go_loopg [5, 12] 3 (fun g s5 s12 w' => ∃ a : Nat, a < l.length ∧ s5 = .int .i64 a ∧ s12 = .int .i64 ((3 : Int) - g) ∧ g ≤ 3 ∧ Hid (top l g a = top l 3 k) ∧ w = w')
      case atStart => exact ⟨k, by omega, rfl, rfl, by omega, rfl, rfl⟩
      case round =>
        obtain ⟨a, ha, rfl, rfl, hg, ht, rfl⟩ := hrel
        have hc := hp.out a ha
        have hb := hpar.out a ha
        by_cases hz : gk = 0
        · subst hz
          have ht' : Hid (climbF l l.length 0 = (16, (k : Int))) := by
            show _ = _
            rw [← hall.out, show g0 = (g0 - 1) + 1 by omega, climbF, ← ht.out]; rfl
          go_wp2
          rw [Exit.noGoto_ret]
          go_ret2
          exact told2 ht'.out
        · obtain ⟨g, rfl⟩ : ∃ g, gk = g + 1 := ⟨gk - 1, by omega⟩
          by_cases hm : nP l a = -1
          · have ht' : top l 3 k = true := by rw [← ht.out]; exact top_m1 hm
            have hall' : Hid (climbF l (g0 - 1) (k + 1) = climbF l l.length 0) := by
              show _ = _
              rw [← hall.out, show g0 = (g0 - 1) + 1 by omega, climbF, ht']; rfl
            have hm' : (nP l a == -1) = true := by simp [hm]
            have HM := Lib.hid hm
            clear hm ht' ht
            go_wp2
            go_roundg (g0 - 1)
            case measure => omega
            case rel => exact ⟨k + 1, by omega, by go_num, hall', rfl⟩
          · have hm' : (nP l a == -1) = false := by simp [hm]
            have ht' : Hid (top l g (nP l a).toNat = top l 3 k) := by
              show _ = _; rw [← ht.out]; exact (top_up hm').symm
            go_wp2
            go_roundg g
            case measure => omega
            case rel => exact ⟨(nP l a).toNat, by omega, by congr 1; omega, by congr 1; omega, by omega, ht', rfl⟩
    · have hall' : Hid (climbF l l.length 0 = (0, -1)) := by
        show _ = _
        rw [← hall.out, show g0 = 0 by omega]; rfl
      go_wp2
      try rw [Exit.noGoto_ret]
      go_ret2
      exact told2 hall'.out
theorem scan_18 {l : List (Int × Int)} {g k : Nat} (h : (nP l k != -1) = true) (h' : inR l.length (nP l k) = false) : scanF l (g + 1) k = (18, (k : Int)) := by
  rw [scanF, if_neg]; simp at h; simp [h, h']
theorem scan_1 {l : List (Int × Int)} {g k : Nat} (h : nP l k = -1 ∨ inR l.length (nP l k) = true) (h' : nC l k < 0 ∨ 4611686018427387904 < nC l k) : scanF l (g + 1) k = (1, (k : Int)) := by
  rw [scanF, if_pos h, if_neg (by omega)]
theorem scan_go {l : List (Int × Int)} {g k : Nat} (h : nP l k = -1 ∨ inR l.length (nP l k) = true) (h' : 0 ≤ nC l k) (h'' : nC l k ≤ 4611686018427387904) : scanF l (g + 1) k = scanF l g (k + 1) := by
  rw [scanF, if_pos h, if_pos ⟨h', h''⟩]
theorem check_any (A : Option Addr) (c : Nat) (l : List (Int × Int)) (w : World) (hl : Nds w w.heap.size A l) (hw : Hid (WfN l)) (hmax : (l.length : Int) ≤ 9223372036854775807) :
    Calls Tryd.prog 18 #[.slice A l.length c] w (Made2 (chk l) w) := by
  by_cases h32 : 32 < l.length
  · go_enter Tryd.func18, Tryd.ntmps18
    go_wp2
    go_ret2
    exact made2 (by rw [chk, if_pos h32]) (Below.refl _ _)
  by_cases h0 : l.length = 0
  · have h0' : l = [] := List.eq_nil_of_length_eq_zero h0
    subst h0'
    go_enter Tryd.func18, Tryd.ntmps18
    go_wp2
    go_ret2
    exact made2 rfl (Below.refl _ _)
  obtain ⟨b, o, rfl, hb, hc⟩ := hl.at (by omega)
  have HC := Lib.hid hc
  have H0 : ((l.length : Int) == 0) = false := beq_eq_false_iff_ne.2 (by omega)
  have hchk : Hid (chk l = scanF l l.length 0) := by show _ = _; rw [chk, if_neg h32, if_neg h0]
  clear hc hl h0
  go_enter Tryd.func18, Tryd.ntmps18
  go_wp2
  go_loopg [14] l.length (fun g s14 w' => ∃ k : Nat, k + g = l.length ∧ s14 = .int .i64 k ∧ Hid (scanF l g k = scanF l l.length 0) ∧ Hid (∀ j, j < k → nP l j = -1 ∨ inR l.length (nP l j) = true) ∧ Below w.heap.size w w')
  case atStart => exact ⟨0, by omega, rfl, rfl, fun j hj => absurd hj (Nat.not_lt_zero j), Below.refl _ _⟩
  case round =>
    obtain ⟨k, hk, rfl, hall, hpar, hbel⟩ := hrel
    by_cases hlt : (k : Int) < (l.length : Int)
    · obtain ⟨g, rfl⟩ : ∃ g, gk = g + 1 := ⟨gk - 1, by omega⟩
      have hc0 : wr.cell? ⟨b, o + k * 2, none⟩ = some (.int .i64 (nP l k)) := (hbel.cell (p := ⟨b, o + k * 2, none⟩) hb).trans (HC.out k (by omega)).1
      have hc1 : wr.cell? ⟨b, o + k * 2 + 1, none⟩ = some (.int .i64 (nC l k)) := (hbel.cell (p := ⟨b, o + k * 2 + 1, none⟩) hb).trans (HC.out k (by omega)).2
      have hbel2 : Below w.heap.size w (wr.alloc (.cells #[.int .i64 (nP l k), .int .i64 (nC l k)] 73)) := hbel.alloc hbel.size _
      by_cases hP : nP l k = -1 ∨ inR l.length (nP l k) = true
      · by_cases hC : 0 ≤ nC l k ∧ nC l k ≤ 4611686018427387904
        · have hall' : Hid (scanF l g (k + 1) = scanF l l.length 0) := (scan_go hP hC.1 hC.2).symm.trans hall.out
          have hpar' : Hid (∀ j, j < k + 1 → nP l j = -1 ∨ inR l.length (nP l j) = true) := fun j hj => by
            by_cases e : j = k
            · subst e; exact hP
            · exact hpar.out j (by omega)
          obtain ⟨hC0, hC1⟩ := hC
          by_cases hm : nP l k = -1
          · have h1 : (nP l k != -1) = false := by simp [hm]
            have h1' : (nP l k == -1) = true := by simp [hm]
            clear hm hP
            go_wp2_with fail
            go_roundg g
            case measure => omega
            case rel => exact ⟨k + 1, by omega, by go_num, hall', hpar', hbel2⟩
          · have h1 : (nP l k != -1) = true := by simp [hm]
            have h1' : (nP l k == -1) = false := by simp [hm]
            have h2 : inR l.length (nP l k) = true := hP.resolve_left hm
            clear hm hP
            go_wp2_with (go_at_call 30; refine (has_any _ _ _ _ _).mono ?_; rintro e w' ⟨rfl, rfl⟩)
            go_roundg g
            case measure => omega
            case rel => exact ⟨k + 1, by omega, by go_num, hall', hpar', hbel2⟩
        · have hres : Hid (scanF l l.length 0 = (1, (k : Int))) := by
            show _ = _
            rw [← hall.out]; exact scan_1 hP (by omega)
          by_cases hm : nP l k = -1
          · have h1 : (nP l k != -1) = false := by simp [hm]
            have h1' : (nP l k == -1) = true := by simp [hm]
            clear hm hP
            by_cases hC0 : nC l k < 0
            · go_wp2_with fail
              go_ret2
              exact made2 (hchk.out.trans hres.out) hbel2
            · have hC1 : 4611686018427387904 < nC l k := by omega
              clear hC
              go_wp2_with fail
              go_ret2
              exact made2 (hchk.out.trans hres.out) hbel2
          · have h1 : (nP l k != -1) = true := by simp [hm]
            have h1' : (nP l k == -1) = false := by simp [hm]
            have h2 : inR l.length (nP l k) = true := hP.resolve_left hm
            clear hm hP
            by_cases hC0 : nC l k < 0
            · go_wp2_with (go_at_call 30; refine (has_any _ _ _ _ _).mono ?_; rintro e w' ⟨rfl, rfl⟩)
              go_ret2
              exact made2 (hchk.out.trans hres.out) hbel2
            · have hC1 : 4611686018427387904 < nC l k := by omega
              clear hC
              go_wp2_with (go_at_call 30; refine (has_any _ _ _ _ _).mono ?_; rintro e w' ⟨rfl, rfl⟩)
              go_ret2
              exact made2 (hchk.out.trans hres.out) hbel2
      · have hm : ¬ nP l k = -1 := fun e => hP (.inl e)
        have h1 : (nP l k != -1) = true := by simp [hm]
        have h1' : (nP l k == -1) = false := by simp [hm]
        have h2 : inR l.length (nP l k) = false := by
          cases h : inR l.length (nP l k)
          · rfl
          · exact absurd (.inr h) hP
        have hres : Hid (scanF l l.length 0 = (18, (k : Int))) := by
          show _ = _
          rw [← hall.out]; exact scan_18 h1 h2
        clear hm hP
        go_wp2_with (go_at_call 30; refine (has_any _ _ _ _ _).mono ?_; rintro e w' ⟨rfl, rfl⟩)
        go_ret2
        exact made2 (hchk.out.trans hres.out) hbel2
    · have hres : Hid (scanF l l.length 0 = climbF l l.length 0) := by
        show _ = _
        rw [← hall.out, show gk = 0 by omega]; rfl
      have hpar' : Hid (Par l) := by
        intro i hi
        rcases hpar.out i (by omega) with h | h
        · omega
        · have := inR_of h; omega
      have hp' : Hid (∀ i, i < l.length → wr.cell? ⟨b, o + i * 2, none⟩ = some (.int .i64 (nP l i))) := fun i hi =>
        (hbel.cell (p := ⟨b, o + i * 2, none⟩) hb).trans (HC.out i hi).1
      go_wp2_with (go_at_call 31; refine (climb_any b o c l _ (by omega) hpar' hp').mono ?_; rintro e w' ⟨rfl, rfl⟩)
      go_ret2
      exact made2 (hchk.out.trans hres.out) hbel
theorem int_info : (Tryd.prog.info? 3).map (fun i => (i.zero, i.size, i.bytes)) = some (some (.int .i64 0), 1, 8) := by kernel_rfl
def MadeN (x : Int) (w : World) (e : Ending) (w' : World) : Prop := e = .returned (.int .i64 x) ∧ Below w.heap.size w w'
end Tre
namespace Law3
open Go.ChangeShapes Go.WideShapes Go.ChangeAt Go.RowKit Mem Tre Ref3
theorem rnode_info : (Tryd.prog.info? 61).map (fun i => (i.zero, i.size, i.bytes)) = some (some (.agg #[.int .i64 0, .int .i64 0]), 2, 16) := by kernel_rfl
theorem take_snoc {l : List (Int × Int)} {k : Nat} (h : k < l.length) : l.take (k + 1) = l.take k ++ [(nP l k, nC l k)] := by
  have e : l[k] = (nP l k, nC l k) := by simp [nP, nC, h]
  rw [List.take_succ_eq_append_getElem h, e]
def MadeB (b : Bool) (w : World) (e : Ending) (w' : World) : Prop := e = .returned (.bool b) ∧ Below w.heap.size w w'
theorem madeB_mk {b b' : Bool} {w w' : World} (h : b' = b) (hb : Below w.heap.size w w') : MadeB b' w (.returned (.bool b)) w' := by subst h; exact ⟨rfl, hb⟩
end Law3
namespace Fix3
open Go.ChangeShapes Go.WideShapes Go.ChangeAt Go.RowKit Mem Tre Ref3 Law3
def capF (c : Int) : Int := (c % 18446744073709551616) % 4611686018427387905
def fixP (l out : List (Int × Int)) (k : Nat) : Int :=
  if 0 < k ∧ 0 ≤ nP l k then (if 3 ≤ (pathF out 3 (nP l k % k)).length then -1 else nP l k % k) else -1
def fixK (l : List (Int × Int)) : Nat → List (Int × Int)
  | 0 => []
  | k + 1 => fixK l k ++ [(fixP l (fixK l k) k, capF (nC l k))]
def fixF (l : List (Int × Int)) : List (Int × Int) := if l.length = 0 then [(-1, 1000)] else fixK l (min l.length 10)
def Okt (l : List (Int × Int)) : Prop := ∀ i, i < l.length → -1 ≤ nP l i ∧ nP l i < i ∧ 0 ≤ nC l i ∧ nC l i ≤ 4611686018427387904 ∧ top l 3 i = true
theorem okt_wf {l : List (Int × Int)} (h : Okt l) (hl : l.length ≤ 32) : WfN l := fun i hi => by
  have := h i hi
  exact ⟨⟨by omega, by omega⟩, ⟨by omega, by omega⟩⟩
end Fix3
namespace CrdB
open Go.ChangeShapes Go.WideShapes Go.ChangeAt Go.RowKit Mem Tre Ref3 Law3 Crd
theorem below_step {a b c : World} (h : Below a.heap.size a b) (k : Below b.heap.size b c) : Below a.heap.size a c := h.trans (k.mono h.size)
theorem blk_set {w : World} {g : Nat} {te : TypeId} {cs : Array Value} (h : Blk w g te cs) (i : Nat) (u : Value) : Blk (w.setCell ⟨g, i, none⟩ u) g te (cs.setIfInBounds i u) := by
  unfold Blk at h ⊢
  simp [World.setCell, Array.getElem?_modify, h]
end CrdB
namespace CrdC
open Go.ChangeShapes Go.WideShapes Go.ChangeAt Go.RowKit Mem Tre Ref3 Law3 Crd CrdB
def zeros (n : Nat) : List Int := List.replicate n 0
theorem zeros_len (n : Nat) : (zeros n).length = n := by simp [zeros]
theorem made_zeros (n : Nat) : (madeCells (Value.int .i64 0).cells n).toList = ints (zeros n) := by
  refine List.ext_getElem? fun i => ?_
  by_cases h : i < n
  · have e : (madeCells (Value.int .i64 0).cells n)[i]? = some (Value.int .i64 0) := by
      unfold madeCells
      simp [h, Value.cells]
      exact Nat.mod_one i ▸ rfl
    simp [ints, zeros, h, e]
  · simp [ints, zeros, madeCells, h]
theorem blk_far {w : World} {g : Nat} {te : TypeId} {cs : Array Value} (h : Blk w g te cs) {p : Addr} (hp : g ≠ p.block) (u : Value) : Blk (w.setCell p u) g te cs := (Below.heap_setCell w p u g hp).trans h
def UOk (u : List Int) : Prop := ∀ i, i < u.length → 0 ≤ gI u i ∧ gI u i ≤ 4611686018427387904
end CrdC
namespace Res
open Go.ChangeShapes Go.WideShapes Go.ChangeAt Go.RowKit Mem Tre Ref3 Law3 Fix3 Crd CrdB CrdC Cpl Own
structure GoodSt (l : List (Int × Int)) (u : List Int) : Prop where
  okt : Okt l
  one : 1 ≤ l.length
  few : l.length ≤ 32
  len : u.length = l.length
  uok : UOk u
theorem GoodSt.wf {l : List (Int × Int)} {u : List Int} (h : GoodSt l u) : WfN l := okt_wf h.okt h.few
end Res
namespace Rr4
open Go.ChangeShapes Go.WideShapes Go.ChangeAt Go.RowKit Mem Tre Ref3 Law3 Fix3 Crd CrdB CrdC Cpl Own Res Rel Lim
theorem grown_refl (w : World) (row : Option Nat) : w.grownBy w row := ⟨rfl, rfl, rfl, Nat.le_refl _, fun _ _ _ => rfl⟩
theorem run_appG {P : Program} {w : World} {Bx : Nat} {base : Nat} {e : TypeId} {size n m nm c : Nat} {v : Value} {xs news : List Value} {A : Option Addr}
    (hown : w.ownsRow base e size v n xs) (hr : Rd w Bx A news) (hnm : nm = n + m) (t ty : TypeId)
    (i : TypeInfo) (z : Value) (bytes : Nat) (ht : P.underlying t = some (.slice e)) (hi : P.info? e = some i) (hz : i.zero = some z)
    (hsize : i.size = size) (hby : i.bytes = bytes) (hzs : z.cells.size = size) (hsz : 0 < size)
    (hl : news.length = m * size) (h1 : ∀ u ∈ news, u.oneCell' = true)
    (h63 : n + m ≤ maxLen) (hbytes : (n + m) * bytes ≤ 140737488355328) (hbase : base ≤ w.heap.size) :
    ∃ A' c' w', (Builtin.append_ #[t, t] ty #[v, .slice A m c]).run P w = .ok (.slice A' nm c') w' ∧ w'.ownsRow base e size (.slice A' nm c') nm (xs ++ news) ∧ w.grownBy w' v.ownBlock := by
  subst hnm
  cases A with
  | none =>
    have hn : news = [] := by
      rcases hr with h | ⟨b, o, h, _⟩
      · exact h
      · cases h
    subst hn
    have hm : m = 0 := by
      rcases Nat.eq_zero_or_pos m with h | h
      · exact h
      · have := Nat.mul_pos h hsz; simp at hl; omega
    subst hm
    obtain ⟨A', c', rfl, _⟩ := own_form hown
    exact ⟨A', c', w, run_appNil w base t ty e i size ht hi _ n xs hown c, by simpa using hown, grown_refl _ _⟩
  | some ad =>
    have hnews : ∀ j u, news[j]? = some u → w.cell? (ad.add j) = some u := by
      intro j u hj
      rcases hr with h | ⟨b, o, h, _, hc⟩
      · subst h; simp at hj
      · injection h with h
        subst h
        rw [show (⟨b, o, none⟩ : Addr).add j = ⟨b, o + j, none⟩ by unfold Addr.add; split <;> simp_all]
        exact hc j u hj
    obtain ⟨v', w', hrun, hown', hg, _⟩ := run_append_own (P := P) w base t ty e i z size bytes ht hi hz hsize hby hzs hsz v n xs hown ad m c news hl hnews h1 h63 hbytes hbase
    obtain ⟨A', c', rfl, _⟩ := own_form hown'
    exact ⟨A', c', w', hrun, hown', hg⟩
theorem Blk_grown {w w' : World} {g : Nat} {te : TypeId} {cs : Array Value} {row : Option Nat} (h : Blk w g te cs) (hg : w.grownBy w' row) (hne : some g ≠ row) : Blk w' g te cs := (hg.block g h.lt hne).trans h
theorem blk_ne {W : World} {g b j n n' c c' : Nat} {te : TypeId} {a a' : Option Addr} {k : IntKind} {x : Int} (h : Blk W g te #[.slice a n c, .slice a' n' c']) (hc : W.cell? ⟨b, j, none⟩ = some (.int k x)) : b ≠ g := by
  rintro rfl
  rw [h.cell] at hc
  match j, hc with
  | 0, hc => simp at hc
  | 1, hc => simp at hc
  | j + 2, hc => simp at hc
end Rr4
namespace Kap
open Go.ChangeShapes Go.WideShapes Go.ChangeAt Go.RowKit Mem
theorem κ {P : Prop} (h : P) : Hid P := Lib.hid h
theorem χ {w : World} {a : Addr} {r : Option Value} {v : Value} (h : w.cell? a = r) (e : r = some v := by first | (simp only [List.setIfInBounds_toArray, List.set_cons_zero, List.set_cons_succ, List.getElem?_toArray, List.getElem?_cons_zero, List.getElem?_cons_succ]; exact rfl) | exact rfl) : w.cell? a = some v := h.trans e
theorem β (w : World) (o : Obj) : Below w.heap.size w (w.alloc o) := (Below.refl _ _).alloc (Nat.le_refl _) _
theorem γ (w : World) (o p : Obj) : Below w.heap.size w ((w.alloc o).alloc p) := ((Below.refl _ _).alloc (Nat.le_refl _) _).alloc (by simp) _
theorem δ (w : World) (te : TypeId) (cs : Array Value) (g : Nat) (h : g = w.heap.size := by simp) : Blk (w.alloc (.cells cs te)) g te cs := by subst h; exact Blk.fresh _ _ _
end Kap
namespace Stk
open Go.ChangeShapes Go.WideShapes Go.RowKit Mem
theorem blk_st {w : World} {g : Nat} {te : TypeId} {cs : Array Value} (h : Blk w g te cs) (i : Nat) (u : Value) : Blk (w.setCell ⟨g, i, none⟩ u) g te (cs.setIfInBounds i u) :=
  heap_setCell_same w g i cs te u h
theorem far_st {w : World} {g g' : Nat} {te : TypeId} {cs : Array Value} (h : Blk w g te cs) (hne : g ≠ g') {i : Nat} (u : Value) : Blk (w.setCell ⟨g', i, none⟩ u) g te cs :=
  (Below.heap_setCell w ⟨g', i, none⟩ u g hne).trans h
def st7 (W : World) (g : Nat) (v0 v1 v2 v3 v4 v5 v6 : Value) : World := (((((((W.setCell ⟨g, 0, none⟩ v0).setCell ⟨g, 1, none⟩ v1).setCell ⟨g, 2, none⟩ v2).setCell ⟨g, 3, none⟩ v3).setCell ⟨g, 4, none⟩ v4).setCell ⟨g, 5, none⟩ v5).setCell ⟨g, 6, none⟩ v6)
theorem st7_blk {W : World} {g : Nat} {te : TypeId} {u0 u1 u2 u3 u4 u5 u6 v0 v1 v2 v3 v4 v5 v6 : Value} (hk : Blk W g te #[u0, u1, u2, u3, u4, u5, u6]) : Blk (st7 W g v0 v1 v2 v3 v4 v5 v6) g te #[v0, v1, v2, v3, v4, v5, v6] := by
  have k0 : Blk (W.setCell ⟨g, 0, none⟩ v0) g te #[v0, u1, u2, u3, u4, u5, u6] := blk_st hk 0 v0
  have k1 : Blk ((W.setCell ⟨g, 0, none⟩ v0).setCell ⟨g, 1, none⟩ v1) g te #[v0, v1, u2, u3, u4, u5, u6] := blk_st k0 1 v1
  have k2 : Blk (((W.setCell ⟨g, 0, none⟩ v0).setCell ⟨g, 1, none⟩ v1).setCell ⟨g, 2, none⟩ v2) g te #[v0, v1, v2, u3, u4, u5, u6] := blk_st k1 2 v2
  have k3 : Blk ((((W.setCell ⟨g, 0, none⟩ v0).setCell ⟨g, 1, none⟩ v1).setCell ⟨g, 2, none⟩ v2).setCell ⟨g, 3, none⟩ v3) g te #[v0, v1, v2, v3, u4, u5, u6] := blk_st k2 3 v3
  have k4 : Blk (((((W.setCell ⟨g, 0, none⟩ v0).setCell ⟨g, 1, none⟩ v1).setCell ⟨g, 2, none⟩ v2).setCell ⟨g, 3, none⟩ v3).setCell ⟨g, 4, none⟩ v4) g te #[v0, v1, v2, v3, v4, u5, u6] := blk_st k3 4 v4
  have k5 : Blk ((((((W.setCell ⟨g, 0, none⟩ v0).setCell ⟨g, 1, none⟩ v1).setCell ⟨g, 2, none⟩ v2).setCell ⟨g, 3, none⟩ v3).setCell ⟨g, 4, none⟩ v4).setCell ⟨g, 5, none⟩ v5) g te #[v0, v1, v2, v3, v4, v5, u6] := blk_st k4 5 v5
  have k6 : Blk (((((((W.setCell ⟨g, 0, none⟩ v0).setCell ⟨g, 1, none⟩ v1).setCell ⟨g, 2, none⟩ v2).setCell ⟨g, 3, none⟩ v3).setCell ⟨g, 4, none⟩ v4).setCell ⟨g, 5, none⟩ v5).setCell ⟨g, 6, none⟩ v6) g te #[v0, v1, v2, v3, v4, v5, v6] := blk_st k5 6 v6
  exact k6
theorem st7_below {B : Nat} {w0 W : World} {g : Nat} {v0 v1 v2 v3 v4 v5 v6 : Value} (hb : Below B w0 W) (hg : B ≤ g) : Below B w0 (st7 W g v0 v1 v2 v3 v4 v5 v6) := (((((((hb.setCell (p := ⟨g, 0, none⟩) hg v0).setCell (p := ⟨g, 1, none⟩) hg v1).setCell (p := ⟨g, 2, none⟩) hg v2).setCell (p := ⟨g, 3, none⟩) hg v3).setCell (p := ⟨g, 4, none⟩) hg v4).setCell (p := ⟨g, 5, none⟩) hg v5).setCell (p := ⟨g, 6, none⟩) hg v6)
theorem st7_far {W : World} {g k : Nat} {te : TypeId} {cs : Array Value} {v0 v1 v2 v3 v4 v5 v6 : Value} (h : Blk W k te cs) (hne : k ≠ g) : Blk (st7 W g v0 v1 v2 v3 v4 v5 v6) k te cs := by
  unfold st7
  exact (far_st (far_st (far_st (far_st (far_st (far_st (far_st h hne v0) hne v1) hne v2) hne v3) hne v4) hne v5) hne v6)
theorem z7_of {W : World} {g : Nat} {te : TypeId} {v0 v1 v2 v3 v4 v5 v6 : Value} (h : Blk W g te #[v0, v1, v2, v3, v4, v5, v6]) : W.cell? ⟨g, 0, none⟩ = some v0 ∧ W.cell? ⟨g, 1, none⟩ = some v1 ∧ W.cell? ⟨g, 2, none⟩ = some v2 ∧ W.cell? ⟨g, 3, none⟩ = some v3 ∧ W.cell? ⟨g, 4, none⟩ = some v4 ∧ W.cell? ⟨g, 5, none⟩ = some v5 ∧ W.cell? ⟨g, 6, none⟩ = some v6 ∧ W.frozen? ⟨g, 0, none⟩ = false ∧ W.frozen? ⟨g, 1, none⟩ = false ∧ W.frozen? ⟨g, 2, none⟩ = false ∧ W.frozen? ⟨g, 3, none⟩ = false ∧ W.frozen? ⟨g, 4, none⟩ = false ∧ W.frozen? ⟨g, 5, none⟩ = false ∧ W.frozen? ⟨g, 6, none⟩ = false := ⟨h.cell 0, h.cell 1, h.cell 2, h.cell 3, h.cell 4, h.cell 5, h.cell 6, h.thaw 0, h.thaw 1, h.thaw 2, h.thaw 3, h.thaw 4, h.thaw 5, h.thaw 6⟩
theorem q7_of {W : World} {g : Nat} {te : TypeId} {v0 v1 v2 v3 v4 v5 v6 : Value} (h : Blk W g te #[v0, v1, v2, v3, v4, v5, v6]) : W.cell? ⟨g, 0, none⟩ = some v0 ∧ W.cell? ⟨g, 1, none⟩ = some v1 ∧ W.cell? ⟨g, 2, none⟩ = some v2 ∧ W.cell? ⟨g, 3, none⟩ = some v3 ∧ W.cell? ⟨g, 4, none⟩ = some v4 ∧ W.cell? ⟨g, 5, none⟩ = some v5 ∧ W.cell? ⟨g, 6, none⟩ = some v6 := ⟨h.cell 0, h.cell 1, h.cell 2, h.cell 3, h.cell 4, h.cell 5, h.cell 6⟩
end Stk
namespace Apt
open Go.ChangeShapes Go.WideShapes Go.ChangeAt Go.RowKit Mem Tre Ref3 Law3 Rr4
theorem wpList_appRG {P : Program} {w : World} {ops : Array Oper} {rest : List Oper} {o : Oper} {a : Act} {Q : Exit → Act → World → Prop} {Bx : Nat} {base : Nat} {e : TypeId} {size n m nm c : Nat} {v : Value} {xs news : List Value} {A : Option Addr}
    (hown : Hid (w.ownsRow base e size v n xs)) (hr : Hid (Rd w Bx A news)) (hnm : nm = n + m) (hgd : o.guard = none) (s x : Operand) (t : TypeId)
    (ho : o.op = .call { callee := .builtin .append, args := #[s, x], argTypes := #[t, t] })
    (i : TypeInfo) (z : Value) (bytes : Nat) (ht : P.underlying t = some (.slice e)) (hi : P.info? e = some i) (hz : i.zero = some z)
    (hsize : i.size = size) (hby : i.bytes = bytes) (hzs : z.cells.size = size) (hsz : 0 < size)
    (hs : a.eval s = v) (hx : a.eval x = .slice A m c) (hl : news.length = m * size) (h1 : ∀ u ∈ news, u.oneCell' = true)
    (h63 : n + m ≤ maxLen) (hbytes : (n + m) * bytes ≤ 140737488355328) (hbase : base ≤ w.heap.size)
    (h : ∀ A' c' w', Hid (w'.ownsRow base e size (.slice A' nm c') nm (xs ++ news)) → w.grownBy w' v.ownBlock → wpList P ops Q rest (a.put o.dst (.slice A' nm c')) w') :
    wpList P ops Q (o :: rest) a w := by
  refine wpList_plain hgd fun _ hK => ?_
  obtain ⟨A', c', w', hrun, h2, h3⟩ := run_appG (P := P) hown.out hr.out hnm t o.type i z bytes ht hi hz hsize hby hzs hsz hl h1 h63 hbytes hbase (c := c)
  unfold Oper.wp execOp
  simp only [ho, resolve, invoke, builtin, Sem.run_bind, Sem.run_pure, Result.andThen_ok, List.map_toArray, List.map_cons, List.map_nil, hs, hx, hrun]
  exact hK _ _ (h A' c' w' h2 h3)
section
variable {w w' : World} {b1 b2 : Nat} {e1 e2 : TypeId} {s1 s2 n1 n2 : Nat} {v1 v2 : Value} {x1 x2 : List Value}
theorem own_ne (h : w.ownsRow b1 e1 s1 v1 n1 x1) (k : w.ownsRow b2 e2 s2 v2 n2 x2) (hne : e1 ≠ e2) : v1.ownBlock = none ∨ v1.ownBlock ≠ v2.ownBlock := by
  rcases h.2 with ⟨rfl, _⟩ | ⟨g, cap, cur, rfl, _, hg, _⟩
  · exact .inl rfl
  · rcases k.2 with ⟨rfl, _⟩ | ⟨g', cap', cur', rfl, _, hg', _⟩
    · exact .inr (by simp [Value.ownBlock])
    · refine .inr fun e => ?_
      simp only [Value.ownBlock, Option.some.injEq] at e
      subst e
      rw [hg] at hg'
      injection hg' with hg'
      injection hg' with _ q
      exact hne q
theorem own_grown (h : w.ownsRow b1 e1 s1 v1 n1 x1) (k : w.ownsRow b2 e2 s2 v2 n2 x2) (hne : e1 ≠ e2) (hg : w.grownBy w' v2.ownBlock) : w'.ownsRow b1 e1 s1 v1 n1 x1 :=
  World.ownsRow.kept h hg (own_ne h k hne)
theorem blk_own_ne {g : Nat} {te : TypeId} {cs : Array Value} (h : Blk w g te cs) (k : w.ownsRow b2 e2 s2 v2 n2 x2) (hne : te ≠ e2) : some g ≠ v2.ownBlock := by
  rcases k.2 with ⟨rfl, _⟩ | ⟨g', cap', cur', rfl, _, hg', _⟩
  · simp [Value.ownBlock]
  · intro e
    simp only [Value.ownBlock, Option.some.injEq] at e
    subst e
    unfold Blk at h
    rw [h] at hg'
    injection hg' with hg'
    injection hg' with _ q
    exact hne q
theorem blk_own_grown {g : Nat} {te : TypeId} {cs : Array Value} (h : Blk w g te cs) (k : w.ownsRow b2 e2 s2 v2 n2 x2) (hne : te ≠ e2) (hg : w.grownBy w' v2.ownBlock) : Blk w' g te cs :=
  Blk_grown h hg (blk_own_ne h k hne)
theorem grown_below {B : Nat} {w0 : World} (hb : Below B w0 w) (k : w.ownsRow b2 e2 s2 v2 n2 x2) (hg : w.grownBy w' v2.ownBlock) (hB : B ≤ b2) (hB' : B ≤ w.heap.size) : Below B w0 w' :=
  hb.grown hg hB' (fun q hq => by have := World.ownsRow.lt k q hq; omega)
end
end Apt
namespace Lat
open Go
section
variable {P : Program} {ops : Array Oper} {Q : Exit → Act → World → Prop} {md : Region.Mode} {T : World → Prop} {st : List Nat}
def clean (st : List Nat) (up : Array Bool) : Bool := st.all fun s => !(up.getD s false)
theorem clean_back {up : Array Bool} {i : Nat} (h : clean st (up.setIfInBounds i true) = true) : clean st up = true := by
  unfold clean at *
  rw [List.all_eq_true] at *
  intro s hs
  have h1 := h s hs
  by_cases e : i = s
  · subst e
    by_cases hl : i < up.size
    · simp [hl] at h1
    · simp [hl]
  · rw [getD_set_ne false e] at h1; exact h1
theorem clean_on {up : Array Bool} {i : Nat} (hi : st.contains i = false) (h : clean st up = true) : clean st (up.setIfInBounds i true) = true := by
  unfold clean at *
  rw [List.all_eq_true] at *
  intro s hs
  have e : i ≠ s := by rintro rfl; have : st.contains i = true := by simpa using hs
                       rw [hi] at this; cases this
  rw [getD_set_ne false e]; exact h s hs
def wpL (P : Program) (md : Region.Mode) (ops : Array Oper) (Q : Exit → Act → World → Prop) (T : World → Prop) (st : List Nat) : Nat → Array Bool → Act → World → Prop
  | 0, up, a, w => Region.ready md ops up = [] ∧ Q .normal a w
  | k + 1, up, a, w => (Region.ready md ops up = [] → Q .normal a w) ∧
      ∀ i ∈ Region.ready md ops up, wpOp P ops Q i (fun a' w' => (clean st (up.setIfInBounds i true) = true → T w') ∧ wpL P md ops Q T st k (up.setIfInBounds i true) a' w') a w
theorem wpAny_of_L : ∀ (k : Nat) (up : Array Bool) (a : Act) (w : World), wpL P md ops Q T st k up a w → wpAny P md ops Q k up a w
  | 0, _, _, _, h => h
  | k + 1, up, _, _, h => ⟨h.1, fun i hi => wpOp_mono (fun a' w' h' => wpAny_of_L k (up.setIfInBounds i true) a' w' h'.2) (h.2 i hi)⟩
def waits (md : Region.Mode) (ops : Array Oper) (st : List Nat) (i : Nat) : Bool :=
  st.all fun j => match ops[j]? with
    | some o => o.after.any fun e => Region.binds md e && e.on == i
    | none => true
theorem waits_spec {i j : Nat} {o : Oper} (h : waits md ops st i = true) (hj : st.contains j = true) (ho : ops[j]? = some o) : ∃ e ∈ o.after, Region.binds md e = true ∧ e.on = i := by
  unfold waits at h
  rw [List.all_eq_true] at h
  have h1 := h j (by simpa using hj)
  rw [ho] at h1
  simp only [Array.any_eq_true, Bool.and_eq_true, beq_iff_eq] at h1
  obtain ⟨n, hn, h2, h3⟩ := h1
  exact ⟨_, Array.getElem_mem hn, h2, h3⟩
theorem wpL_load {i : Nat} {oi : Oper} {v : Value} (hi : ops[i]? = some oi) (hs : Region.noSelect ops = true) (hQ : ∀ c a w, Q (.panic c) (a.put oi.dst v) w → Q (.panic c) a w) (hns : st.contains i = false) (hlt : waits md ops st i = true) :
    ∀ (k : Nat) (up : Array Bool) (a : Act) (w : World), Region.free md ops up i = true → (Region.ready md ops up).contains i = true → YieldsIf P ops T oi v a → clean st up = true → T w →
      wpL P md ops Q T st k (up.setIfInBounds i true) (a.put oi.dst v) w → wpL P md ops Q T st (k + 1) up a w := by
  suffices H0 : ∀ (k : Nat) (up : Array Bool) (a : Act) (w : World),
      (∀ j oj, ops[j]? = some oj → j ≠ i → up.getD j true = false → (∀ e ∈ oj.after, Region.binds md e = true → e.on ≠ i) → oi.apart ops oj = true) →
      i ∈ Region.ready md ops up → YieldsIf P ops T oi v a → clean st up = true → T w →
      wpL P md ops Q T st k (up.setIfInBounds i true) (a.put oi.dst v) w → wpL P md ops Q T st (k + 1) up a w by
    intro k up a w hf hr
    exact H0 k up a w (Region.free_spec hi hf) (by simpa using hr)
  intro k
  induction k with
  | zero =>
    intro up a w _ hr hy hc hT H
    refine ⟨fun h => (by rw [h] at hr; cases hr), fun j hj => ?_⟩
    by_cases hji : j = i
    · subst hji; exact hy.wpOp hi hT ⟨fun _ => hT, H⟩
    · have := ready_mono hj hji
      rw [H.1] at this
      cases this
  | succ k ih =>
    intro up a w hfree hr hy hc hT H
    refine ⟨fun h => (by rw [h] at hr; cases hr), fun j hj => ?_⟩
    by_cases hji : j = i
    · subst hji; exact hy.wpOp hi hT ⟨fun _ => hT, H⟩
    · have h1 := H.2 j (ready_mono hj hji)
      obtain ⟨hjun, oj, hoj, hall⟩ := mem_ready.1 hj
      have hno : ∀ e ∈ oj.after, Region.binds md e = true → e.on ≠ i := fun e he hb heq => by
        have a1 := hall e he hb
        have a0 := (mem_ready.1 hr).1
        rw [heq] at a1
        rcases Nat.lt_or_ge i up.size with h' | h'
        · simp [h'] at a0 a1; rw [a0] at a1; cases a1
        · simp [Array.getElem?_eq_none h'] at a1
      have hjl : st.contains j = false := by
        cases hcj : st.contains j with
        | false => rfl
        | true =>
          obtain ⟨e, he, hb, heq⟩ := waits_spec hlt hcj hoj
          exact absurd heq (hno e he hb)
      have hcj := clean_on hjl hc
      have hsel := Region.noSelect_spec hs
      have h2 := wpOp_putIf hoj (hfree j oj hoj hji hjun hno) (fun cs b => hsel i oi cs b hi) (fun cs b => hsel j oj cs b hoj) hQ hy h1
      have hfree' : ∀ n on_, ops[n]? = some on_ → n ≠ i → (up.setIfInBounds j true).getD n true = false →
          (∀ e ∈ on_.after, Region.binds md e = true → e.on ≠ i) → oi.apart ops on_ = true := fun n on_ hn hni hun hnw => by
        refine hfree n on_ hn hni ?_ hnw
        by_cases hjn : j = n
        · subst hjn; exact hjun
        · rw [getD_set_ne true hjn] at hun; exact hun
      have hsw : (up.setIfInBounds i true).setIfInBounds j true = (up.setIfInBounds j true).setIfInBounds i true := Array.setIfInBounds_comm _ _ (Ne.symm hji)
      refine wpOp_mono (fun a' w' h3 => ⟨fun _ => h3.2.1 (by rw [hsw]; exact clean_on hns hcj), ih (up.setIfInBounds j true) a' w' hfree' (ready_mono hr (Ne.symm hji)) h3.1 hcj (h3.2.1 (by rw [hsw]; exact clean_on hns hcj)) ?_⟩) h2
      rw [← hsw]
      exact h3.2.2
theorem wpL_word {i : Nat} {oi : Oper} {v : Value} (hi : ops[i]? = some oi) (hs : Region.noSelect ops = true) (hQ : ∀ c a w, Q (.panic c) (a.put oi.dst v) w → Q (.panic c) a w) (hns : st.contains i = false) :
    ∀ (k : Nat) (up : Array Bool) (a : Act) (w : World), Region.free md ops up i = true → (Region.ready md ops up).contains i = true → YieldsIf P ops (fun _ => True) oi v a → (clean st up = true → T w) →
      wpL P md ops Q T st k (up.setIfInBounds i true) (a.put oi.dst v) w → wpL P md ops Q T st (k + 1) up a w := by
  suffices H0 : ∀ (k : Nat) (up : Array Bool) (a : Act) (w : World),
      (∀ j oj, ops[j]? = some oj → j ≠ i → up.getD j true = false → (∀ e ∈ oj.after, Region.binds md e = true → e.on ≠ i) → oi.apart ops oj = true) →
      i ∈ Region.ready md ops up → YieldsIf P ops (fun _ => True) oi v a → (clean st up = true → T w) →
      wpL P md ops Q T st k (up.setIfInBounds i true) (a.put oi.dst v) w → wpL P md ops Q T st (k + 1) up a w by
    intro k up a w hf hr
    exact H0 k up a w (Region.free_spec hi hf) (by simpa using hr)
  intro k
  induction k with
  | zero =>
    intro up a w _ hr hy hT H
    refine ⟨fun h => (by rw [h] at hr; cases hr), fun j hj => ?_⟩
    by_cases hji : j = i
    · subst hji; exact hy.wpOp hi trivial ⟨fun h => hT (clean_back h), H⟩
    · have := ready_mono hj hji
      rw [H.1] at this
      cases this
  | succ k ih =>
    intro up a w hfree hr hy hT H
    refine ⟨fun h => (by rw [h] at hr; cases hr), fun j hj => ?_⟩
    by_cases hji : j = i
    · subst hji; exact hy.wpOp hi trivial ⟨fun h => hT (clean_back h), H⟩
    · have h1 := H.2 j (ready_mono hj hji)
      obtain ⟨hjun, oj, hoj, hall⟩ := mem_ready.1 hj
      have hno : ∀ e ∈ oj.after, Region.binds md e = true → e.on ≠ i := fun e he hb heq => by
        have a1 := hall e he hb
        have a0 := (mem_ready.1 hr).1
        rw [heq] at a1
        rcases Nat.lt_or_ge i up.size with h' | h'
        · simp [h'] at a0 a1; rw [a0] at a1; cases a1
        · simp [Array.getElem?_eq_none h'] at a1
      have hsel := Region.noSelect_spec hs
      have h2 := wpOp_putIf hoj (hfree j oj hoj hji hjun hno) (fun cs b => hsel i oi cs b hi) (fun cs b => hsel j oj cs b hoj) hQ hy h1
      have hfree' : ∀ n on_, ops[n]? = some on_ → n ≠ i → (up.setIfInBounds j true).getD n true = false →
          (∀ e ∈ on_.after, Region.binds md e = true → e.on ≠ i) → oi.apart ops on_ = true := fun n on_ hn hni hun hnw => by
        refine hfree n on_ hn hni ?_ hnw
        by_cases hjn : j = n
        · subst hjn; exact hjun
        · rw [getD_set_ne true hjn] at hun; exact hun
      have hsw : (up.setIfInBounds i true).setIfInBounds j true = (up.setIfInBounds j true).setIfInBounds i true := Array.setIfInBounds_comm _ _ (Ne.symm hji)
      refine wpOp_mono (fun a' w' h3 => ⟨fun hcj => h3.2.1 (by rw [hsw]; exact clean_on hns hcj), ih (up.setIfInBounds j true) a' w' hfree' (ready_mono hr (Ne.symm hji)) h3.1 (fun hcj => h3.2.1 (by rw [hsw]; exact clean_on hns hcj)) ?_⟩) h2
      rw [← hsw]
      exact h3.2.2
theorem wpL_done {up : Array Bool} {a : Act} {w : World} (hr : Region.ready md ops up = []) (h : Q .normal a w) : ∀ k, wpL P md ops Q T st k up a w
  | 0 => ⟨hr, h⟩
  | _ + 1 => ⟨fun _ => h, by rw [hr]; simp⟩
theorem wpL_late {n k : Nat} {o : Oper} {up : Array Bool} {a : Act} {w : World} (hr : Region.ready md ops up = [n]) (ho : ops[n]? = some o) (hk : clean st (up.setIfInBounds n true) = false)
    (h : ∀ K : Act → World → Prop, Shut (∀ a w, wpL P md ops Q T st k (up.setIfInBounds n true) a w → K a w) → if Region.wanted o (yielded ops a.tmps) = true then Oper.wp P o a w K Q else K (a.put o.dst undef) w) :
    wpL P md ops Q T st (k + 1) up a w := by
  refine ⟨fun h0 => (by rw [hr] at h0; cases h0), ?_⟩
  rw [hr]
  intro j hj
  simp only [List.mem_cons, List.not_mem_nil, or_false] at hj
  subst hj
  exact wpOp_step ho (fun K hK => h K (fun a w hW => hK a w ⟨fun e => (by rw [hk] at e; cases e), hW⟩))
theorem wpL_next {n k : Nat} {o : Oper} {up : Array Bool} {a : Act} {w : World} (hr : Region.ready md ops up = [n]) (ho : ops[n]? = some o)
    (h : ∀ K : Act → World → Prop, Shut (∀ a w, T w → wpL P md ops Q T st k (up.setIfInBounds n true) a w → K a w) → if Region.wanted o (yielded ops a.tmps) = true then Oper.wp P o a w K Q else K (a.put o.dst undef) w) :
    wpL P md ops Q T st (k + 1) up a w := by
  refine ⟨fun h0 => (by rw [hr] at h0; cases h0), ?_⟩
  rw [hr]
  intro j hj
  simp only [List.mem_cons, List.not_mem_nil, or_false] at hj
  subst hj
  exact wpOp_step ho (fun K hK => h K (fun a w hT hW => hK a w ⟨fun _ => hT, hW⟩))
theorem wp_region_L {id : Nat} {a : Act} {w : World} (hm : P.follows .mixedOrders = true)
    (h : wpL P .any ops Q T st ops.size (Array.replicate ops.size false) a w.drew) : (Code.region id ops true).wp P Q a w :=
  wp_region_any hm (wpAny_of_L _ _ _ _ h)
end
end Lat
namespace Lap
open Go Lat
section
variable {P : Program} {ops : Array Oper} {Q : Exit → Act → World → Prop} {md : Region.Mode} {T : World → Prop} {st : List Nat}
def Pure (P : Program) (ops : Array Oper) (o : Oper) (v : Value) (a : Act) : Prop :=
  Region.wanted o (yielded ops a.tmps) = true ∧ ∃ f args, (∀ w, (execOp a.eval o).run P w = .ok (.enter f args) w) ∧ ∀ w, Calls P f args w (fun e w' => e = .returned v ∧ w = w')
theorem Pure.as {o : Oper} {v : Value} {a b : Act} (h : Pure P ops o v a) (e1 : execOp b.eval o = execOp a.eval o) (e2 : Region.wanted o (yielded ops b.tmps) = Region.wanted o (yielded ops a.tmps)) : Pure P ops o v b := by
  unfold Pure
  rw [e1, e2]
  exact h
theorem Pure.now {i : Nat} {o : Oper} {v : Value} {a : Act} (hi : ops[i]? = some o) (h : Pure P ops o v a) {K : Act → World → Prop} {w : World} (k : K (a.put o.dst v) w) : wpOp P ops Q i K a w := by
  obtain ⟨hw, f, args, hr, hc⟩ := h
  unfold wpOp
  simp only [hi, hw, if_true]
  refine .inl ?_
  unfold Oper.wp
  rw [hr w]
  refine (hc w).mono ?_
  rintro e w' ⟨rfl, rfl⟩
  exact k
theorem Pure.past {j : Nat} {oi oj : Oper} {v : Value} (hj : ops[j]? = some oj) (hap : oi.apart ops oj = true) (hsi : ∀ cs b, oi.op ≠ .select cs b) (hsj : ∀ cs b, oj.op ≠ .select cs b)
    (hQ : ∀ c a w, Q (.panic c) (a.put oi.dst v) w → Q (.panic c) a w) {K : Act → World → Prop} {a : Act} {w : World} (hy : Pure P ops oi v a) (h : wpOp P ops Q j K (a.put oi.dst v) w) :
    wpOp P ops Q j (fun b w' => Pure P ops oi v b ∧ K (b.put oi.dst v) w') a w := by
  obtain ⟨x1, x2, x3⟩ := Oper.apart_spec hap
  have stay : ∀ (c : Act), Pure P ops oi v c → ∀ u, Pure P ops oi v (c.put oj.dst u) := fun c hc u => hc.as (execOp_put oi hsi c oj.dst u x3) (wanted_put oi c oj.dst u x3)
  unfold wpOp at h ⊢
  simp only [hj] at h ⊢
  rw [wanted_put oj a oi.dst v x1] at h
  by_cases hw : Region.wanted oj (yielded ops a.tmps) = true
  · rw [if_pos hw] at h ⊢
    refine h.imp (fun h => ?_) (fun ⟨q, r⟩ => ⟨by unfold Oper.asks at *; rwa [execOp_put oj hsj a oi.dst v x1] at q, r⟩)
    unfold Oper.wp at h ⊢
    rw [execOp_put oj hsj a oi.dst v x1] at h
    cases hr : (execOp a.eval oj).run P w with
    | ok m w1 =>
      rw [hr] at h
      cases m with
      | value u => exact ⟨stay a hy u, by rw [← Act.put_comm a v u x2]; exact h⟩
      | skip => exact ⟨stay a hy undef, by rw [← Act.put_comm a v undef x2]; exact h⟩
      | defer d => exact ⟨stay { a with defers := d :: a.defers } (hy.as rfl rfl) undef, by rw [← Act.put_comm _ v undef x2, ← Act.put_defers]; exact h⟩
      | enter f args =>
        refine Calls.mono h fun e w2 k => ?_
        match e, k with
        | .returned u, k => exact ⟨stay a hy u, by rw [← Act.put_comm a v u x2]; exact k⟩
        | .panicked c, k => exact hQ _ _ _ k
        | .outgrown, k => exact k
      | row r args => exact Rows.mono h fun u w2 k => ⟨stay a hy u, by rw [← Act.put_comm a v u x2]; exact k⟩
      | _ => simp only [Oper.upon] at h ⊢
    | halt y w1 =>
      rw [hr] at h
      cases y with
      | panic u => exact hQ _ _ _ h
      | _ => simp only [Oper.upon] at h ⊢
  · rw [if_neg hw] at h ⊢
    exact ⟨stay a hy undef, by rw [← Act.put_comm a v undef x2]; exact h⟩
theorem wpL_pure {i : Nat} {oi : Oper} {v : Value} (hi : ops[i]? = some oi) (hs : Region.noSelect ops = true) (hQ : ∀ c a w, Q (.panic c) (a.put oi.dst v) w → Q (.panic c) a w) (hns : st.contains i = false) :
    ∀ (k : Nat) (up : Array Bool) (a : Act) (w : World), Region.free md ops up i = true → (Region.ready md ops up).contains i = true → Pure P ops oi v a → (clean st up = true → T w) →
      wpL P md ops Q T st k (up.setIfInBounds i true) (a.put oi.dst v) w → wpL P md ops Q T st (k + 1) up a w := by
  suffices H0 : ∀ (k : Nat) (up : Array Bool) (a : Act) (w : World),
      (∀ j oj, ops[j]? = some oj → j ≠ i → up.getD j true = false → (∀ e ∈ oj.after, Region.binds md e = true → e.on ≠ i) → oi.apart ops oj = true) →
      i ∈ Region.ready md ops up → Pure P ops oi v a → (clean st up = true → T w) →
      wpL P md ops Q T st k (up.setIfInBounds i true) (a.put oi.dst v) w → wpL P md ops Q T st (k + 1) up a w by
    intro k up a w hf hr
    exact H0 k up a w (Region.free_spec hi hf) (by simpa using hr)
  intro k
  induction k with
  | zero =>
    intro up a w _ hr hy hT H
    refine ⟨fun h => (by rw [h] at hr; cases hr), fun j hj => ?_⟩
    by_cases hji : j = i
    · subst hji; exact hy.now hi ⟨fun h => hT (clean_back h), H⟩
    · have := ready_mono hj hji
      rw [H.1] at this
      cases this
  | succ k ih =>
    intro up a w hfree hr hy hT H
    refine ⟨fun h => (by rw [h] at hr; cases hr), fun j hj => ?_⟩
    by_cases hji : j = i
    · subst hji; exact hy.now hi ⟨fun h => hT (clean_back h), H⟩
    · have h1 := H.2 j (ready_mono hj hji)
      obtain ⟨hjun, oj, hoj, hall⟩ := mem_ready.1 hj
      have hno : ∀ e ∈ oj.after, Region.binds md e = true → e.on ≠ i := fun e he hb heq => by
        have a1 := hall e he hb
        have a0 := (mem_ready.1 hr).1
        rw [heq] at a1
        rcases Nat.lt_or_ge i up.size with h' | h'
        · simp [h'] at a0 a1; rw [a0] at a1; cases a1
        · simp [Array.getElem?_eq_none h'] at a1
      have hsel := Region.noSelect_spec hs
      have h2 := Pure.past hoj (hfree j oj hoj hji hjun hno) (fun cs b => hsel i oi cs b hi) (fun cs b => hsel j oj cs b hoj) hQ hy h1
      have hfree' : ∀ n on_, ops[n]? = some on_ → n ≠ i → (up.setIfInBounds j true).getD n true = false →
          (∀ e ∈ on_.after, Region.binds md e = true → e.on ≠ i) → oi.apart ops on_ = true := fun n on_ hn hni hun hnw => by
        refine hfree n on_ hn hni ?_ hnw
        by_cases hjn : j = n
        · subst hjn; exact hjun
        · rw [getD_set_ne true hjn] at hun; exact hun
      have hsw : (up.setIfInBounds i true).setIfInBounds j true = (up.setIfInBounds j true).setIfInBounds i true := Array.setIfInBounds_comm _ _ (Ne.symm hji)
      refine wpOp_mono (fun a' w' h3 => ⟨fun hcj => h3.2.1 (by rw [hsw]; exact clean_on hns hcj), ih (up.setIfInBounds j true) a' w' hfree' (ready_mono hr (Ne.symm hji)) h3.1 (fun hcj => h3.2.1 (by rw [hsw]; exact clean_on hns hcj)) ?_⟩) h2
      rw [← hsw]
      exact h3.2.2
theorem wpL_two {m n k : Nat} {om on_ : Oper} {up : Array Bool} {a : Act} {w : World} (hr : Region.ready md ops up = [m, n]) (hm : ops[m]? = some om) (hn : ops[n]? = some on_)
    (h1 : ∀ K : Act → World → Prop, Shut (∀ a w, T w → wpL P md ops Q T st k (up.setIfInBounds m true) a w → K a w) → if Region.wanted om (yielded ops a.tmps) = true then Oper.wp P om a w K Q else K (a.put om.dst undef) w)
    (h2 : ∀ K : Act → World → Prop, Shut (∀ a w, T w → wpL P md ops Q T st k (up.setIfInBounds n true) a w → K a w) → if Region.wanted on_ (yielded ops a.tmps) = true then Oper.wp P on_ a w K Q else K (a.put on_.dst undef) w) :
    wpL P md ops Q T st (k + 1) up a w := by
  refine ⟨fun h0 => (by rw [hr] at h0; cases h0), ?_⟩
  rw [hr]
  intro j hj
  simp only [List.mem_cons, List.not_mem_nil, or_false] at hj
  rcases hj with rfl | rfl
  · exact wpOp_step hm (fun K hK => h1 K (fun a w hT hW => hK a w ⟨fun _ => hT, hW⟩))
  · exact wpOp_step hn (fun K hK => h2 K (fun a w hT hW => hK a w ⟨fun _ => hT, hW⟩))
theorem wpL_three {m n p k : Nat} {om on_ op_ : Oper} {up : Array Bool} {a : Act} {w : World} (hr : Region.ready md ops up = [m, n, p]) (hm : ops[m]? = some om) (hn : ops[n]? = some on_) (hp : ops[p]? = some op_)
    (h1 : ∀ K : Act → World → Prop, Shut (∀ a w, T w → wpL P md ops Q T st k (up.setIfInBounds m true) a w → K a w) → if Region.wanted om (yielded ops a.tmps) = true then Oper.wp P om a w K Q else K (a.put om.dst undef) w)
    (h2 : ∀ K : Act → World → Prop, Shut (∀ a w, T w → wpL P md ops Q T st k (up.setIfInBounds n true) a w → K a w) → if Region.wanted on_ (yielded ops a.tmps) = true then Oper.wp P on_ a w K Q else K (a.put on_.dst undef) w)
    (h3 : ∀ K : Act → World → Prop, Shut (∀ a w, T w → wpL P md ops Q T st k (up.setIfInBounds p true) a w → K a w) → if Region.wanted op_ (yielded ops a.tmps) = true then Oper.wp P op_ a w K Q else K (a.put op_.dst undef) w) :
    wpL P md ops Q T st (k + 1) up a w := by
  refine ⟨fun h0 => (by rw [hr] at h0; cases h0), ?_⟩
  rw [hr]
  intro j hj
  simp only [List.mem_cons, List.not_mem_nil, or_false] at hj
  rcases hj with rfl | rfl | rfl
  · exact wpOp_step hm (fun K hK => h1 K (fun a w hT hW => hK a w ⟨fun _ => hT, hW⟩))
  · exact wpOp_step hn (fun K hK => h2 K (fun a w hT hW => hK a w ⟨fun _ => hT, hW⟩))
  · exact wpOp_step hp (fun K hK => h3 K (fun a w hT hW => hK a w ⟨fun _ => hT, hW⟩))
end
end Lap
namespace Lar
open Go Lat Lap
section
variable {P : Program} {ops : Array Oper} {Q : Exit → Act → World → Prop} {md : Region.Mode} {T : World → Prop}
def PureT (T : World → Prop) (P : Program) (ops : Array Oper) (o : Oper) (v : Value) (a : Act) : Prop :=
  Region.wanted o (yielded ops a.tmps) = true ∧ ∃ f args, (∀ w, (execOp a.eval o).run P w = .ok (.enter f args) w) ∧ ∀ w, T w → Calls P f args w (fun e w' => e = .returned v ∧ w = w')
theorem PureT.as {o : Oper} {v : Value} {a b : Act} (h : PureT T P ops o v a) (e1 : execOp b.eval o = execOp a.eval o) (e2 : Region.wanted o (yielded ops b.tmps) = Region.wanted o (yielded ops a.tmps)) : PureT T P ops o v b := by
  unfold PureT
  rw [e1, e2]
  exact h
theorem PureT.now {i : Nat} {o : Oper} {v : Value} {a : Act} (hi : ops[i]? = some o) (h : PureT T P ops o v a) {K : Act → World → Prop} {w : World} (ht : T w) (k : K (a.put o.dst v) w) : wpOp P ops Q i K a w := by
  obtain ⟨hw, f, args, hr, hc⟩ := h
  unfold wpOp
  simp only [hi, hw, if_true]
  refine .inl ?_
  unfold Oper.wp
  rw [hr w]
  refine (hc w ht).mono ?_
  rintro e w' ⟨rfl, rfl⟩
  exact k
theorem PureT.past {j : Nat} {oi oj : Oper} {v : Value} (hj : ops[j]? = some oj) (hap : oi.apart ops oj = true) (hsi : ∀ cs b, oi.op ≠ .select cs b) (hsj : ∀ cs b, oj.op ≠ .select cs b)
    (hQ : ∀ c a w, Q (.panic c) (a.put oi.dst v) w → Q (.panic c) a w) {K : Act → World → Prop} {a : Act} {w : World} (hy : PureT T P ops oi v a) (h : wpOp P ops Q j K (a.put oi.dst v) w) :
    wpOp P ops Q j (fun b w' => PureT T P ops oi v b ∧ K (b.put oi.dst v) w') a w := by
  obtain ⟨x1, x2, x3⟩ := Oper.apart_spec hap
  have stay : ∀ (c : Act), PureT T P ops oi v c → ∀ u, PureT T P ops oi v (c.put oj.dst u) := fun c hc u => hc.as (execOp_put oi hsi c oj.dst u x3) (wanted_put oi c oj.dst u x3)
  unfold wpOp at h ⊢
  simp only [hj] at h ⊢
  rw [wanted_put oj a oi.dst v x1] at h
  by_cases hw : Region.wanted oj (yielded ops a.tmps) = true
  · rw [if_pos hw] at h ⊢
    refine h.imp (fun h => ?_) (fun ⟨q, r⟩ => ⟨by unfold Oper.asks at *; rwa [execOp_put oj hsj a oi.dst v x1] at q, r⟩)
    unfold Oper.wp at h ⊢
    rw [execOp_put oj hsj a oi.dst v x1] at h
    cases hr : (execOp a.eval oj).run P w with
    | ok m w1 =>
      rw [hr] at h
      cases m with
      | value u => exact ⟨stay a hy u, by rw [← Act.put_comm a v u x2]; exact h⟩
      | skip => exact ⟨stay a hy undef, by rw [← Act.put_comm a v undef x2]; exact h⟩
      | defer d => exact ⟨stay { a with defers := d :: a.defers } (hy.as rfl rfl) undef, by rw [← Act.put_comm _ v undef x2, ← Act.put_defers]; exact h⟩
      | enter f args =>
        refine Calls.mono h fun e w2 k => ?_
        match e, k with
        | .returned u, k => exact ⟨stay a hy u, by rw [← Act.put_comm a v u x2]; exact k⟩
        | .panicked c, k => exact hQ _ _ _ k
        | .outgrown, k => exact k
      | row r args => exact Rows.mono h fun u w2 k => ⟨stay a hy u, by rw [← Act.put_comm a v u x2]; exact k⟩
      | _ => simp only [Oper.upon] at h ⊢
    | halt y w1 =>
      rw [hr] at h
      cases y with
      | panic u => exact hQ _ _ _ h
      | _ => simp only [Oper.upon] at h ⊢
  · rw [if_neg hw] at h ⊢
    exact ⟨stay a hy undef, by rw [← Act.put_comm a v undef x2]; exact h⟩
end
end Lar
end Go.Proofs.YtmjkhejfhpgiiaaDoor
