/- Texts side by side. -/
import Derived.Lib.SliceRun
import Derived.ArgAppend
import Derived.Deep.Upon
import Derived.Deep.MidRow
import Derived.Maps.AppendAt
import Derived.Test.YtmjkhejfhpgiiaaDoorSrqc
set_option linter.unusedVariables false
set_option linter.unusedSimpArgs false
set_option maxRecDepth 100000
set_option maxHeartbeats 16000000
namespace Go.Proofs.YtmjkhejfhpgiiaaDoor
open Go.ChangeShapes Go.WideShapes Go.RowKit Mem
namespace Bkp
open Tre Ref3 Law3
structure Od where
  a : Int
  s : Int
  x : Bool
  p : Int
  q : Int
  n : Int
  t : Int
def od0 : Od := ⟨0, 0, false, 0, 0, 0, 0⟩
structure En where
  id : Int
  o : Od
  lf : Int
  st : Int
  ep : Int
def enV (e : En) : List Value := [.int .i64 e.id, .int .i64 e.o.a, .int .i64 e.o.s, .bool e.o.x, .int .i64 e.o.p, .int .i64 e.o.q, .int .i64 e.o.n, .int .i64 e.o.t, .int .i64 e.lf, .int .i64 e.st, .int .i64 e.ep]
def en0 : En := ⟨0, od0, 0, 0, 0⟩
def gE (l : List En) (i : Nat) : En := l.getD i en0
def ens (l : List En) : List Value := l.flatMap enV
theorem ens_len (l : List En) : (ens l).length = l.length * 11 := by
  induction l with
  | nil => rfl
  | cons p l ih => simp [ens, enV] at ih ⊢; omega
theorem ens_get (l : List En) (i j : Nat) (hi : i < l.length) (hj : j < 11) : (ens l)[i * 11 + j]? = (enV (gE l i))[j]? := by
  induction l generalizing i with
  | nil => simp at hi
  | cons m l ih =>
    cases i with
    | zero =>
      show (enV m ++ ens l)[0 * 11 + j]? = (enV m)[j]?
      rw [List.getElem?_append_left (by simp [enV]; omega)]
      simp
    | succ i =>
      have h := ih i (by simpa using hi)
      show (enV m ++ ens l)[(i + 1) * 11 + j]? = (enV (gE l i))[j]?
      rw [List.getElem?_append_right (by simp [enV]; omega), ← h]
      congr 1
      simp [enV]
      omega
theorem Ens.at {w : World} {B : Nat} {A : Option Addr} {l : List En} (h : Rd w B A (ens l)) (hi : 0 < l.length) :
    ∃ b o, A = some ⟨b, o, none⟩ ∧ b < B ∧ ∀ j, j < l.length → w.cell? ⟨b, o + j * 11, none⟩ = some (.int .i64 (gE l j).id) ∧ w.cell? ⟨b, o + j * 11 + 1, none⟩ = some (.int .i64 (gE l j).o.a) ∧ w.cell? ⟨b, o + j * 11 + 2, none⟩ = some (.int .i64 (gE l j).o.s) ∧ w.cell? ⟨b, o + j * 11 + 3, none⟩ = some (.bool (gE l j).o.x) ∧ w.cell? ⟨b, o + j * 11 + 4, none⟩ = some (.int .i64 (gE l j).o.p) ∧ w.cell? ⟨b, o + j * 11 + 5, none⟩ = some (.int .i64 (gE l j).o.q) ∧ w.cell? ⟨b, o + j * 11 + 6, none⟩ = some (.int .i64 (gE l j).o.n) ∧ w.cell? ⟨b, o + j * 11 + 7, none⟩ = some (.int .i64 (gE l j).o.t) ∧ w.cell? ⟨b, o + j * 11 + 8, none⟩ = some (.int .i64 (gE l j).lf) ∧ w.cell? ⟨b, o + j * 11 + 9, none⟩ = some (.int .i64 (gE l j).st) ∧ w.cell? ⟨b, o + j * 11 + 10, none⟩ = some (.int .i64 (gE l j).ep) := by
  obtain ⟨b, o, hA, hb, hc⟩ := Rd.at h (by intro e; have := ens_len l; rw [e] at this; simp at this; omega)
  refine ⟨b, o, hA, hb, fun j hj => ?_⟩
  have g : ∀ k, k < 11 → ∀ v, (enV (gE l j))[k]? = some v → w.cell? ⟨b, o + j * 11 + k, none⟩ = some v := by
    intro k hk v hv
    rw [Nat.add_assoc]
    exact hc _ _ ((ens_get l j k hj hk).trans hv)
  exact ⟨g 0 (by decide) _ rfl, g 1 (by decide) _ rfl, g 2 (by decide) _ rfl, g 3 (by decide) _ rfl, g 4 (by decide) _ rfl, g 5 (by decide) _ rfl, g 6 (by decide) _ rfl, g 7 (by decide) _ rfl, g 8 (by decide) _ rfl, g 9 (by decide) _ rfl, g 10 (by decide) _ rfl⟩
structure Ro where
  ns : List Int
  sec : Int
  cnt : Int
def ro0 : Ro := ⟨[], 0, 0⟩
def gR (l : List Ro) (i : Nat) : Ro := l.getD i ro0
structure Rc where
  A : Option Addr
  c : Nat
  r : Ro
def rc0 : Rc := ⟨none, 0, ro0⟩
def gC (l : List Rc) (i : Nat) : Rc := l.getD i rc0
def rcV (x : Rc) : List Value := [.slice x.A x.r.ns.length x.c, .int .i64 x.r.sec, .int .i64 x.r.cnt]
def rcs (l : List Rc) : List Value := l.flatMap rcV
theorem rcs_len (l : List Rc) : (rcs l).length = l.length * 3 := by
  induction l with
  | nil => rfl
  | cons p l ih => simp [rcs, rcV] at ih ⊢; omega
theorem rcs_get (l : List Rc) (i j : Nat) (hi : i < l.length) (hj : j < 3) : (rcs l)[i * 3 + j]? = (rcV (gC l i))[j]? := by
  induction l generalizing i with
  | nil => simp at hi
  | cons m l ih =>
    cases i with
    | zero =>
      show (rcV m ++ rcs l)[0 * 3 + j]? = (rcV m)[j]?
      rw [List.getElem?_append_left (by simp [rcV]; omega)]
      simp
    | succ i =>
      have h := ih i (by simpa using hi)
      show (rcV m ++ rcs l)[(i + 1) * 3 + j]? = (rcV (gC l i))[j]?
      rw [List.getElem?_append_right (by simp [rcV]; omega), ← h]
      congr 1
      simp [rcV]
      omega
theorem Rcs.at {w : World} {B : Nat} {A : Option Addr} {l : List Rc} (h : Rd w B A (rcs l)) (hi : 0 < l.length) :
    ∃ b o, A = some ⟨b, o, none⟩ ∧ b < B ∧ ∀ j, j < l.length → w.cell? ⟨b, o + j * 3, none⟩ = some (.slice (gC l j).A (gC l j).r.ns.length (gC l j).c) ∧ w.cell? ⟨b, o + j * 3 + 1, none⟩ = some (.int .i64 (gC l j).r.sec) ∧ w.cell? ⟨b, o + j * 3 + 2, none⟩ = some (.int .i64 (gC l j).r.cnt) := by
  obtain ⟨b, o, hA, hb, hc⟩ := Rd.at h (by intro e; have := rcs_len l; rw [e] at this; simp at this; omega)
  refine ⟨b, o, hA, hb, fun j hj => ?_⟩
  have g : ∀ k, k < 3 → ∀ v, (rcV (gC l j))[k]? = some v → w.cell? ⟨b, o + j * 3 + k, none⟩ = some v := by
    intro k hk v hv
    rw [Nat.add_assoc]
    exact hc _ _ ((rcs_get l j k hj hk).trans hv)
  exact ⟨g 0 (by decide) _ rfl, g 1 (by decide) _ rfl, g 2 (by decide) _ rfl⟩
structure Bk where
  sh : Int
  ca : Int
  rows : List Ro
  op : List En
structure Bm (w : World) (A C : Option Addr) (rl : List Rc) (b : Bk) : Prop where
  r : Rd w w.heap.size A (rcs rl)
  e : rl.map Rc.r = b.rows
  n : ∀ i, i < rl.length → Ris w w.heap.size (gC rl i).A (gC rl i).r.ns
  o : Rd w w.heap.size C (ens b.op)
theorem Bm.below {w w' : World} {A C : Option Addr} {rl : List Rc} {b : Bk} (h : Bm w A C rl b) (hb : Below w.heap.size w w') : Bm w' A C rl b :=
  ⟨Rd.below' h.r hb hb.size, h.e, fun i hi => Rd.below' (h.n i hi) hb hb.size, Rd.below' h.o hb hb.size⟩
theorem Bm.len {w : World} {A C : Option Addr} {rl : List Rc} {b : Bk} (h : Bm w A C rl b) : rl.length = b.rows.length := by rw [← h.e]; simp
end Bkp
namespace Dlk
variable {P : Program}
theorem grown_refl (w : World) (r : Option Nat) : w.grownBy w r := ⟨rfl, rfl, rfl, Nat.le_refl _, fun _ _ _ => rfl⟩
end Dlk
namespace Bks
open Tre Ref3 Law3 Bkp
structure FewB (b : Bk) : Prop where
  rl : b.rows.length ≤ 1000
  ol : b.op.length ≤ 1000
  nl : ∀ i, i < b.rows.length → (gR b.rows i).ns.length ≤ 1000
  sh : 0 ≤ b.sh ∧ b.sh ≤ 1000
  ca : 0 ≤ b.ca ∧ b.ca ≤ 1000000000
  cnt : ∀ i, i < b.rows.length → 0 ≤ (gR b.rows i).cnt ∧ (gR b.rows i).cnt ≤ 1000000000
  sec : ∀ i, i < b.rows.length → inI (gR b.rows i).sec
end Bks
namespace Bko
open Go.ChangeAt Tre Ref3 Law3 Crd CrdB CrdC Rr4 Bkp Bks Bcl Dlk Stk Apt
theorem own_st {w : World} {base : Nat} {e te : TypeId} {size n g : Nat} {v : Value} {xs : List Value} {cs : Array Value} (h : w.ownsRow base e size v n xs) (hk : Blk w g te cs) (hne : e ≠ te) (i : Nat) (x : Value) :
    (w.setCell ⟨g, i, none⟩ x).ownsRow base e size v n xs := by
  refine ⟨h.1, ?_⟩
  rcases h.2 with h2 | ⟨k, cap, cur, hv, hg, hh, r⟩
  · exact .inl h2
  · have hkg : k ≠ g := by
      rintro rfl
      unfold Blk at hk
      rw [hh] at hk
      injection hk with hk
      injection hk with _ q
      exact hne q
    refine .inr ⟨k, cap, cur, hv, hg, ?_, r⟩
    rw [Below.heap_setCell _ _ _ _ (by exact hkg)]
    exact hh
end Bko
namespace Bkq
open Tre Ref3 Law3 Bkp Bks
def EOk (e : En) : Prop := inI e.lf ∧ inI e.o.p
def ROk (m : Nat) (r : Ro) : Prop := r.ns.length ≤ m ∧ 0 ≤ r.cnt ∧ r.cnt ≤ m ∧ inI r.sec
structure Fw (m : Nat) (b : Bk) : Prop where
  rl : b.rows.length ≤ 1000
  ol : b.op.length ≤ m
  sh : 0 ≤ b.sh ∧ b.sh ≤ 1000
  ca : 0 ≤ b.ca ∧ b.ca ≤ m
  ro : ∀ r ∈ b.rows, ROk m r
  en : ∀ e ∈ b.op, EOk e
theorem gE_mem {l : List En} {i : Nat} (h : i < l.length) : gE l i ∈ l := by
  simp only [gE, List.getD, List.getElem?_eq_getElem h, Option.getD_some]
  exact List.getElem_mem h
theorem gR_mem {l : List Ro} {i : Nat} (h : i < l.length) : gR l i ∈ l := by
  simp only [gR, List.getD, List.getElem?_eq_getElem h, Option.getD_some]
  exact List.getElem_mem h
theorem Fw.few {m : Nat} {b : Bk} (h : Fw m b) (hm : m ≤ 1000) : FewB b := by
  refine ⟨h.rl, by have := h.ol; omega, fun i hi => ?_, h.sh, ?_, fun i hi => ?_, fun i hi => (h.ro _ (gR_mem hi)).2.2.2⟩
  · have := (h.ro _ (gR_mem hi)).1; omega
  · have := h.ca; omega
  · have := (h.ro _ (gR_mem hi)).2; omega
theorem Fw.lf {m : Nat} {b : Bk} (h : Fw m b) : ∀ i, i < b.op.length → inI (gE b.op i).lf := fun i hi => (h.en _ (gE_mem hi)).1
theorem Fw.mono {m m' : Nat} {b : Bk} (h : Fw m b) (hm : m ≤ m') : Fw m' b := by
  refine ⟨h.rl, by have := h.ol; omega, h.sh, by have := h.ca; omega, fun r hr => ?_, h.en⟩
  obtain ⟨h1, h2, h3, h4⟩ := h.ro r hr
  exact ⟨by omega, h2, by omega, h4⟩
end Bkq
namespace Mdp
open Go.ChangeAt Tre Ref3 Law3 Fix3 Cfg Crd CrdB CrdC Rr4 Bkp Bks Bcl Dlk Stk Apt Bko Bku Bka Bkc
structure Bx where
  A : Option Addr
  C : Option Addr
  c : Nat
  d : Nat
  rl : List Rc
  b : Bk
section
variable {w w' w1 : World} {g : Nat} {Ab : Option Addr}
end
end Mdp
namespace Mdc
open Go.ChangeAt Tre Ref3 Law3 Fix3 Cfg Crd CrdB CrdC Rr4 Bkp Bks Bcl Stk Apt Bko
theorem own_st7 {w : World} {base : Nat} {e te : TypeId} {size n g : Nat} {v : Value} {xs : List Value} {u0 u1 u2 u3 u4 u5 u6 v0 v1 v2 v3 v4 v5 v6 : Value} (h : w.ownsRow base e size v n xs) (hk : Blk w g te #[u0, u1, u2, u3, u4, u5, u6]) (hne : e ≠ te) :
    (st7 w g v0 v1 v2 v3 v4 v5 v6).ownsRow base e size v n xs := by
  have k1 : Blk (w.setCell ⟨g, 0, none⟩ v0) g te #[v0, u1, u2, u3, u4, u5, u6] := blk_st hk 0 v0
  have k2 : Blk ((w.setCell ⟨g, 0, none⟩ v0).setCell ⟨g, 1, none⟩ v1) g te #[v0, v1, u2, u3, u4, u5, u6] := blk_st k1 1 v1
  have k3 : Blk (((w.setCell ⟨g, 0, none⟩ v0).setCell ⟨g, 1, none⟩ v1).setCell ⟨g, 2, none⟩ v2) g te #[v0, v1, v2, u3, u4, u5, u6] := blk_st k2 2 v2
  have k4 : Blk ((((w.setCell ⟨g, 0, none⟩ v0).setCell ⟨g, 1, none⟩ v1).setCell ⟨g, 2, none⟩ v2).setCell ⟨g, 3, none⟩ v3) g te #[v0, v1, v2, v3, u4, u5, u6] := blk_st k3 3 v3
  have k5 : Blk (((((w.setCell ⟨g, 0, none⟩ v0).setCell ⟨g, 1, none⟩ v1).setCell ⟨g, 2, none⟩ v2).setCell ⟨g, 3, none⟩ v3).setCell ⟨g, 4, none⟩ v4) g te #[v0, v1, v2, v3, v4, u5, u6] := blk_st k4 4 v4
  have k6 : Blk ((((((w.setCell ⟨g, 0, none⟩ v0).setCell ⟨g, 1, none⟩ v1).setCell ⟨g, 2, none⟩ v2).setCell ⟨g, 3, none⟩ v3).setCell ⟨g, 4, none⟩ v4).setCell ⟨g, 5, none⟩ v5) g te #[v0, v1, v2, v3, v4, v5, u6] := blk_st k5 5 v5
  exact (own_st (own_st (own_st (own_st (own_st (own_st (own_st h hk hne 0 v0) k1 hne 1 v1) k2 hne 2 v2) k3 hne 3 v3) k4 hne 4 v4) k5 hne 5 v5) k6 hne 6 v6)
end Mdc
namespace Mdb
open Go.ChangeAt Tre Ref3 Law3 Fix3 Cfg Crd CrdB CrdC Rr4 Cfr Bkp Bks Bcl Dlk Stk Apt Bko Bku Bka Bkc Bkj Mdc Mdp Mdz Mds Lat
open Rul1 hiding below_step
theorem step_appA {P : Program} {w : World} {ops : Array Oper} {o : Oper} {a : Act} {K : Act → World → Prop} {Q : Exit → Act → World → Prop} {E : Prop} {Bx : Nat} {base : Nat} {e : TypeId} {size n m nm c : Nat} {v : Value} {xs news : List Value} {ad : Addr}
    (hown : Hid (w.ownsRow base e size v n xs)) (hr : Hid (Rd w Bx (some ad) news)) (hnm : nm = n + m) (hgd : o.guard = none) (s x : Operand) (t : TypeId)
    (ho : o.op = .call { callee := .builtin .append, args := #[s, x], argTypes := #[t, t] })
    (i : TypeInfo) (z : Value) (bytes : Nat) (ht : P.underlying t = some (.slice e)) (hi : P.info? e = some i) (hz : i.zero = some z)
    (hsize : i.size = size) (hby : i.bytes = bytes) (hzs : z.cells.size = size) (hsz : 0 < size)
    (hs : a.eval s = v) (hx : a.eval x = .slice (some ad) m c) (hl : news.length = m * size) (h1 : ∀ u ∈ news, u.oneCell' = true)
    (h63 : n + m ≤ maxLen) (hbytes : (n + m) * bytes ≤ 140737488355328) (hbase : base ≤ w.heap.size)
    (h : ∀ A' c' w', Hid (w'.ownsRow base e size (.slice A' nm c') nm (xs ++ news)) → Hid (w.grownBy w' v.ownBlock) → Hid ((Value.slice A' nm c').ownBlock = v.ownBlock ∨ (Value.slice A' nm c').ownBlock = some w.heap.size) → K (a.put o.dst (.slice A' nm c')) w') :
    if Region.wanted o (yielded ops a.tmps) = true then Oper.wp P o a w K Q else E := by
  subst hnm
  have hw : Region.wanted o (yielded ops a.tmps) = true := by simp [Region.wanted, hgd]
  rw [if_pos hw]
  have hnews : ∀ j u, news[j]? = some u → w.cell? (ad.add j) = some u := by
    intro j u hj
    rcases hr.out with h | ⟨b, o, h, _, hc⟩
    · subst h; simp at hj
    · injection h with h
      subst h
      rw [show (⟨b, o, none⟩ : Addr).add j = ⟨b, o + j, none⟩ by unfold Addr.add; split <;> simp_all]
      exact hc j u hj
  obtain ⟨v', w', hrun, hown', hg, _, hob⟩ := run_append_own_at (P := P) (w := w) base t o.type e i z size bytes ht hi hz hsize hby hzs hsz v n xs hown.out ad m c news hl hnews h1 h63 hbytes hbase
  obtain ⟨A', c', rfl, _⟩ := own_form hown'
  unfold Oper.wp execOp
  simp only [ho, resolve, invoke, builtin, Sem.run_bind, Sem.run_pure, Result.andThen_ok, List.map_toArray, List.map_cons, List.map_nil, hs, hx, hrun]
  exact h A' c' w' hown' hg hob
end Mdb
end Go.Proofs.YtmjkhejfhpgiiaaDoor
