/- Texts side by side. -/
import Derived.Test.YtaeddnjjeholgaaGreatUgao
set_option linter.unusedVariables false
set_option linter.unusedSimpArgs false
set_option maxRecDepth 100000
set_option maxHeartbeats 16000000
namespace Go.Proofs.YtaeddnjjeholgaaGreat
open Kap Go.ChangeShapes Go.WideShapes Go.ChangeAt Go.RowKit Mem Cfg Bkp Bks
namespace Mdp
open Tre Ref3 Law3 Fix3 Crd CrdB CrdC Rr4 Bcl Dlk Stk Apt Bko Bku Bka Bkc
structure Bx where
 A:Option Addr
 C:Option Addr
 c:Nat
 d:Nat
 rl:List Rc
 b:Bk
def bx0:Bx:=⟨none,none,0,0,[],⟨0,0,[],[]⟩⟩
def gX(l:List Bx)(i:Nat):Bx:=l.getD i bx0
def bxV(x:Bx):List Value:=[.int .i64 x.b.sh,.int .i64 x.b.ca,.slice x.A x.b.rows.length x.c,.slice x.C x.b.op.length x.d]
def bxs(l:List Bx):List Value:=l.flatMap bxV
theorem bxs_snoc(l:List Bx)(x:Bx):bxs (l++[x])=bxs l++bxV x:=by simp[bxs]
theorem bxs_get(l:List Bx)(i j:Nat)(hi:i<l.length)(hj:j<4):(bxs l)[i*4+j]? =(bxV (gX l i))[j]? :=by
 induction l generalizing i with
 |nil=>simp at hi
 |cons m l ih=>
  cases i with
  |zero=>
   show(bxV m++bxs l)[0*4+j]? =(bxV m)[j]?;rw[List.getElem?_append_left (by simp[bxV];omega)];simp
  |succ i=>
   have h:=ih i (by simpa using hi);show(bxV m++bxs l)[(i+1)*4+j]? =(bxV (gX l i))[j]?;rw[List.getElem?_append_right (by simp[bxV];omega),←h]
   congr 1
   simp[bxV];omega
theorem bxs_set(l:List Bx)(i:Nat)(x:Bx)(hi:i<l.length):bxs (l.set i x)=((((bxs l).set (i*4) (.int .i64 x.b.sh)).set (i*4+1) (.int .i64 x.b.ca)).set (i*4+2) (.slice x.A x.b.rows.length x.c)).set (i*4+3) (.slice x.C x.b.op.length x.d):=by
 induction l generalizing i with
 |nil=>simp at hi
 |cons m l ih=>
  cases i with
  |zero=>simp[bxs,bxV]
  |succ i=>
   have h:=ih i (by simpa using hi);have e: ∀l',bxs (m :: l')=bxV m++bxs l':=fun _=>rfl
   have e1:(i+1)*4=i*4+1+1+1+1:=by omega
   simp only[List.set_cons_succ];rw[e,e,h,e1];simp[bxV]
theorem gX_set(l:List Bx)(i k:Nat)(x:Bx)(hi:i<l.length):gX (l.set i x) k=if k=i then x else gX l k:=by
 unfold gX;by_cases h:k=i
 ·subst h;simp[hi]
 ·rw[if_neg h];simp[List.getD,List.getElem?_set,show ¬i=k from fun e=>h e.symm]
structure Mq where
 sh:Int
 wi:Int
 ra:Int
 ta:Int
 A:Option Addr
 B:Option Addr
 C:Option Addr
 nl:Nat
 al:Nat
 sl:Nat
 c:Nat
 d:Nat
 f:Nat
 nd:List (Int×Int)
 ac:List Int
 sy:List (Int×Int×Int×Nat)
 Ab:Option Addr
 nb:Nat
 cb:Nat
 xs:List Bx
 An:Option Addr
 Au:Option Addr
 n1:Nat
 n2:Nat
 d1:Nat
 d2:Nat
 cl:List (Int×Int)
 cu:List Int
 ep:Int
 off:Bool
structure Kp(w w':World)(g:Nat)(Ab:Option Addr):Prop where
 os:w'.os=w.os
 tape:w'.tape=w.tape
 output:w'.output=w.output
 size:w.heap.size≤w'.heap.size
 block: ∀k,k<w.heap.size→k≠g→(∀b,Ab=some b→k≠b.block)→w'.heap[k]? =w.heap[k]?
section
variable {w w' w1:World} {g:Nat} {Ab:Option Addr}
end
end Mdp
namespace Gow
open Go.Lib Cel Wpl Hpa Gpl Mdp
abbrev pv (g : Nat) : Value := .pointer (some ⟨g, 0, none⟩)
structure Fs (C : Nat → Prop) (ρ : Nat → Nat) (w : World) (ρ' : Nat → Nat) (w' : World) : Prop where
  own : ∀ k, k < w.heap.size → ρ' k = ρ k
  os : w'.os = w.os
  tape : w'.tape = w.tape
  output : w'.output = w.output
  size : w.heap.size ≤ w'.heap.size
  block : ∀ k, k < w.heap.size → ¬ C (ρ k) → w'.heap[k]? = w.heap[k]?
  cap : ∀ N, w'.heap.size ≤ N → (∀ k, ρ k < N + 8) → ∀ k, ρ' k < N + 8
section
variable {C D : Nat → Prop} {ρ ρ' ρ'' : Nat → Nat} {w w' w'' : World} {j g : Nat}
theorem Fs.refl (C : Nat → Prop) (ρ : Nat → Nat) (w : World) : Fs C ρ w ρ w := ⟨fun _ _ => rfl, rfl, rfl, rfl, Nat.le_refl _, fun _ _ _ => rfl, fun _ _ h => h⟩
theorem Fs.trans (h : Fs C ρ w ρ' w') (k : Fs C ρ' w' ρ'' w'') : Fs C ρ w ρ'' w'' :=
  ⟨fun i hi => (k.own i (Nat.lt_of_lt_of_le hi h.size)).trans (h.own i hi), k.os.trans h.os, k.tape.trans h.tape, k.output.trans h.output, Nat.le_trans h.size k.size, fun i hi hc => (k.block i (Nat.lt_of_lt_of_le hi h.size) (by rw [h.own i hi]; exact hc)).trans (h.block i hi hc), fun N hN h0 => k.cap N hN (h.cap N (Nat.le_trans k.size hN) h0)⟩
theorem Fs.mono (h : Fs C ρ w ρ' w') (hc : ∀ i, C i → D i) : Fs D ρ w ρ' w' := ⟨h.own, h.os, h.tape, h.output, h.size, fun i hi hd => h.block i hi fun c => hd (hc _ c), h.cap⟩
theorem Fs.of_below (hb : Below w.heap.size w w') (ho : ∀ k, k < w.heap.size → ρ' k = ρ k) (hc : ∀ N, w'.heap.size ≤ N → (∀ k, ρ k < N + 8) → ∀ k, ρ' k < N + 8) : Fs C ρ w ρ' w' := ⟨ho, hb.os, hb.tape, hb.output, hb.size, fun k hk _ => hb.block k hk, hc⟩
theorem Fs.quiet (hb : Below w.heap.size w w') : Fs C ρ w ρ w' := Fs.of_below hb (fun _ _ => rfl) fun _ _ h => h
theorem Fs.set (C : Nat → Prop) (ρ : Nat → Nat) (w : World) (b i : Nat) (u : Value) (hc : C (ρ b)) : Fs C ρ w ρ (w.setCell ⟨b, i, none⟩ u) :=
  ⟨fun _ _ => rfl, rfl, rfl, rfl, by simp [World.setCell], fun k hk h => Below.heap_setCell w ⟨b, i, none⟩ u k (fun e => h (by have e : k = b := e; subst e; exact hc)), fun _ _ h => h⟩
theorem Fs.grown {v : Value} (hg : w.grownBy w' v.ownBlock) (hc : ∀ b, v.ownBlock = some b → C (ρ b)) (ho : ∀ k, k < w.heap.size → ρ' k = ρ k) (hcap : ∀ N, w'.heap.size ≤ N → (∀ k, ρ k < N + 8) → ∀ k, ρ' k < N + 8) : Fs C ρ w ρ' w' :=
  ⟨ho, hg.os, hg.tape, hg.output, hg.size, fun k hk h => hg.block k hk fun e => h (hc k e.symm), hcap⟩
theorem Fs.kept {a b c : Nat} (hk : Kept a b c w w') (ha : C (ρ a)) (hb : C (ρ b)) (hc : C (ρ c)) : Fs C ρ w ρ w' :=
  ⟨fun _ _ => rfl, hk.os, hk.tape, hk.output, hk.size, fun k h1 h => hk.block k h1 (fun e => h (e ▸ ha)) (fun e => h (e ▸ hb)) (fun e => h (e ▸ hc)), fun _ _ h => h⟩
theorem Fs.below {B : Nat} (h : Fs C ρ w ρ' w') (hB : B ≤ w.heap.size) (h0 : ∀ k, k < B → ¬ C (ρ k)) : Below B w w' := ⟨h.os, h.tape, h.output, h.size, fun k hk => h.block k (Nat.lt_of_lt_of_le hk hB) (h0 k hk)⟩
theorem Fs.drew (h : Fs C ρ w ρ' w') : Fs C ρ w ρ' w'.drew := ⟨h.own, h.os, h.tape, h.output, h.size, h.block, h.cap⟩
theorem Fs.drewed : Fs C ρ w ρ w.drew := ⟨fun _ _ => rfl, rfl, rfl, rfl, Nat.le_refl _, fun _ _ _ => rfl, fun _ _ h => h⟩
theorem Fs.alloc (o : Obj) : Fs C ρ w ρ (w.alloc o) := Fs.quiet ((Below.refl _ _).alloc (Nat.le_refl _) _)
theorem kept_drew {a b c : Nat} (h : Kept a b c w.drew w') : Kept a b c w w' := ⟨h.os, h.tape, h.output, h.size, h.block⟩
theorem Fs.blk {te : TypeId} {cs : Array Value} (h : Fs C ρ w ρ' w') (hk : Blk w g te cs) (hc : ¬ C (ρ g)) : Blk w' g te cs := (h.block g hk.lt hc).trans hk
theorem Fs.cell {a : Addr} {v : Value} (h : Fs C ρ w ρ' w') (hk : w.cell? a = some v) (hc : ¬ C (ρ a.block)) : w'.cell? a = some v :=
  (World.cell?_of_block (h.block a.block (World.block_lt_of_cell? w a hk) hc)).trans hk
theorem Fs.keep (h : Fs C ρ w ρ' w') (hk : g < w.heap.size) (e : ρ g = j) : ρ' g = j := (h.own g hk).trans e
def put (ρ : Nat → Nat) (g j : Nat) : Nat → Nat := fun k => if k = g then j else ρ k
theorem put_at : put ρ g j g = j := if_pos rfl
theorem put_ne {k : Nat} (h : k ≠ g) : put ρ g j k = ρ k := if_neg h
theorem put_cap {N : Nat} (hj : j < N + 8) (h : ∀ k, ρ k < N + 8) : ∀ k, put ρ g j k < N + 8 := fun k => by unfold put; split <;> first | exact hj | exact h k
theorem Fs.put (hb : Below w.heap.size w w') (hg : w.heap.size ≤ g) (j : Nat) (hj : j < w'.heap.size + 8) : Fs C ρ w (put ρ g j) w' := Fs.of_below hb (fun k hk => put_ne (by omega)) fun N hN h => put_cap (by omega) h
end
def Ro0 (ρ : Nat → Nat) (w : World) (A : Option Addr) (xs : List Value) : Prop := Rd w w.heap.size A xs ∧ (xs = [] ∨ ∀ a, A = some a → ρ a.block = 0)
theorem Ro0.fs {C : Nat → Prop} {ρ ρ' : Nat → Nat} {w w' : World} {A : Option Addr} {xs : List Value} (h : Ro0 ρ w A xs) (e : Fs C ρ w ρ' w') (hc : ¬ C 0) : Ro0 ρ' w' A xs := by
  rcases h with ⟨h, h0⟩
  rcases h with h | ⟨b, o, hA, hb, hcl⟩
  · exact ⟨.inl h, .inl h⟩
  · rcases h0 with h0 | h0
    · exact ⟨.inl h0, .inl h0⟩
    · have z : ρ b = 0 := h0 _ hA
      have hh := e.block b hb (by rw [z]; exact hc)
      refine ⟨.inr ⟨b, o, hA, Nat.lt_of_lt_of_le hb e.size, fun j v hj => ?_⟩, .inr fun a ha => ?_⟩
      · exact (World.cell?_of_block (w := w) (a := ⟨b, o + j, none⟩) hh).trans (hcl j v hj)
      · rw [hA] at ha; injection ha with ha; subst ha; exact e.keep hb z
theorem Ro0.fresh {ρ : Nat → Nat} {w w' : World} {A : Option Addr} {xs : List Value} (h : Rd w' w'.heap.size A xs) (hz : ∀ k, w.heap.size ≤ k → ρ k = 0) (hA : ∀ a, A = some a → w.heap.size ≤ a.block) : Ro0 ρ w' A xs := ⟨h, .inr fun a ha => hz _ (hA a ha)⟩
def OwR (ρ : Nat → Nat) (w : World) (j : Nat) (e : TypeId) (size : Nat) (v : Value) (n : Nat) (xs : List Value) : Prop := w.ownsRow 0 e size v n xs ∧ ∀ b, v.ownBlock = some b → ρ b = j
theorem OwR.fs {C : Nat → Prop} {ρ ρ' : Nat → Nat} {w w' : World} {j : Nat} {e : TypeId} {size n : Nat} {v : Value} {xs : List Value} (h : OwR ρ w j e size v n xs) (f : Fs C ρ w ρ' w') (hc : ¬ C j) : OwR ρ' w' j e size v n xs := by
  obtain ⟨⟨h0, h1⟩, h2⟩ := h
  rcases h1 with h1 | ⟨g, cap, cur, hv, hb, hg, hr⟩
  · exact ⟨⟨h0, .inl h1⟩, by rw [h1.1]; intro b hb; cases hb⟩
  · have z : ρ g = j := h2 g (by rw [hv]; rfl)
    have hl : g < w.heap.size := (Array.getElem?_eq_some_iff.1 hg).1
    refine ⟨⟨h0, .inr ⟨g, cap, cur, hv, hb, (f.block g hl (by rw [z]; exact hc)).trans hg, hr⟩⟩, fun b hb => ?_⟩
    rw [hv] at hb
    injection hb with hb
    subst hb
    exact f.keep hl z
theorem OwR.grow {ρ : Nat → Nat} {w w' : World} {j : Nat} {e : TypeId} {size n n' : Nat} {v : Value} {g cap : Nat} {xs xs' : List Value} (h : OwR ρ w j e size v n xs) (hown : w'.ownsRow 0 e size (.slice (some ⟨g, 0, none⟩) n' cap) n' xs') (hat : v.ownBlock = some g ∨ g = w.heap.size) : OwR (if v.ownBlock = some g then ρ else put ρ g j) w' j e size (.slice (some ⟨g, 0, none⟩) n' cap) n' xs' := by
  refine ⟨hown, fun b hb => ?_⟩
  injection hb with hb
  have hb : g = b := hb
  subst hb
  by_cases hv : v.ownBlock = some g
  · rw [if_pos hv]; exact h.2 _ hv
  · rw [if_neg hv]; exact put_at
theorem grow_own {ρ : Nat → Nat} {w : World} {v : Value} {g j : Nat} (hat : v.ownBlock = some g ∨ g = w.heap.size) : ∀ k, k < w.heap.size → (if v.ownBlock = some g then ρ else put ρ g j) k = ρ k := by
  intro k hk
  by_cases hv : v.ownBlock = some g
  · rw [if_pos hv]
  · rw [if_neg hv]
    rcases hat with h | h
    · exact absurd h hv
    · exact put_ne (by omega)
theorem grow_cap {ρ : Nat → Nat} {v : Value} {g j : Nat} (hj : j < 8) : ∀ N, (∀ k, ρ k < N + 8) → ∀ k, (if v.ownBlock = some g then ρ else put ρ g j) k < N + 8 := by
  intro N h k
  split
  · exact h k
  · exact put_cap (by omega) h k
structure Gq where
  A : Option Addr
  B : Option Addr
  C : Option Addr
  c : Nat
  d : Nat
  f : Nat
  gc : Nat
  gw : Nat
  gh : Nat
  Ab : Option Addr
  cb : Nat
  xs : List Bx
  lb : Nat
  Al : Option Addr
  cl : Nat
  Ao : Option Addr
  co : Nat
  At : Option Addr
  ct : Nat
def pvo : Option Nat → Value
  | none => .pointer none
  | some g => pv g
def lps (l : List (Option Nat)) : List Value := l.map pvo
def gqV (q : Gq) (G : Gp) : Array Value := #[.int .i64 G.sh, .int .i64 G.wi, .int .i64 G.ra, .int .i64 G.ta, .slice q.A G.nd.length q.c, .slice q.B G.ac.length q.d, .slice q.C G.sy.length q.f, pv q.gc, .slice q.Ab G.bs.length q.cb, .slice (some ⟨q.lb, 0, none⟩) G.lp.length G.lp.length, .slice q.Al G.log.length q.cl, .slice q.Ao G.out.length q.co, .slice q.At G.at'.length q.ct]
def Bk0 (ρ : Nat → Nat) (w : World) (x : Bx) : Prop := Bm w x.A x.C x.rl x.b ∧ Ro0 ρ w x.A (rcs x.rl) ∧ Ro0 ρ w x.C (ens x.b.op) ∧ ∀ j, j < x.rl.length → Ro0 ρ w (gC x.rl j).A (ints (gC x.rl j).r.ns)
theorem Bk0.fs {C : Nat → Prop} {ρ ρ' : Nat → Nat} {w w' : World} {x : Bx} (h : Bk0 ρ w x) (e : Fs C ρ w ρ' w') (hc : ¬ C 0) : Bk0 ρ' w' x := by
  obtain ⟨h1, h2, h3, h4⟩ := h
  have k2 := h2.fs e hc
  have k3 := h3.fs e hc
  have k4 := fun j hj => (h4 j hj).fs e hc
  exact ⟨⟨k2.1, h1.e, fun i hi => (k4 i hi).1, k3.1⟩, k2, k3, k4⟩
theorem Bk0.fresh {ρ : Nat → Nat} {w w' : World} {x : Bx} (h : Bm w' x.A x.C x.rl x.b) (hz : ∀ k, w.heap.size ≤ k → ρ k = 0) (hf : Bka.Fb w.heap.size x.A x.C x.rl) : Bk0 ρ w' x :=
  ⟨h, Ro0.fresh h.r hz hf.1, Ro0.fresh h.o hz hf.2.1, fun j hj => Ro0.fresh (h.n j hj) hz (hf.2.2 j hj)⟩
structure Gt (base : Nat) (ρ : Nat → Nat) (w : World) (g0 : Nat) (q : Gq) (G : Gp) : Prop where
  low : ∀ k, k < base → ρ k = 0
  new : ∀ k, w.heap.size ≤ k → ρ k = 0
  cap : ∀ k, ρ k < w.heap.size + 8
  bs : base ≤ w.heap.size
  blk : Blk w g0 99 (gqV q G)
  o0 : ρ g0 = 1
  nds : Ro0 ρ w q.A (Mem.nds G.nd)
  ris : Ro0 ρ w q.B (ints G.ac)
  smb : Ro0 ρ w q.C (smbs G.sy)
  cs : Cs w 147 q.gc q.gw q.gh G.cs
  o2 : ρ q.gc = 2 ∧ ρ q.gw = 2 ∧ ρ q.gh = 2
  row : OwR ρ w 3 63 4 (.slice q.Ab G.bs.length q.cb) G.bs.length (bxs q.xs)
  xb : q.xs.map Bx.b = G.bs
  bk : ∀ i, i < q.xs.length → Bk0 ρ w (gX q.xs i)
  last : Blk w q.lb 46 (lps G.lp).toArray
  o4 : ρ q.lb = 4
  log : OwR ρ w 5 123 21 (.slice q.Al G.log.length q.cl) G.log.length (hrow G.log)
  out : OwR ρ w 6 93 2 (.slice q.Ao G.out.length q.co) G.out.length (Mem.nds G.out)
  at' : OwR ρ w 7 3 1 (.slice q.At G.at'.length q.ct) G.at'.length (ints G.at')
section
variable {C : Nat → Prop} {base : Nat} {ρ ρ' : Nat → Nat} {w w' : World} {g0 : Nat} {q : Gq} {G : Gp}
theorem Gt.fs (h : Gt base ρ w g0 q G) (e : Fs C ρ w ρ' w') (hn : ∀ k, w'.heap.size ≤ k → ρ' k = 0) (hc : ∀ i, i < 8 → ¬ C i) : Gt base ρ' w' g0 q G :=
  ⟨fun k hk => (e.own k (Nat.lt_of_lt_of_le hk h.bs)).trans (h.low k hk), hn, e.cap _ (Nat.le_refl _) (fun k => Nat.lt_of_lt_of_le (h.cap k) (Nat.add_le_add_right e.size 8)), Nat.le_trans h.bs e.size, e.blk h.blk (by rw [h.o0]; exact hc 1 (by decide)), e.keep h.blk.lt h.o0, h.nds.fs e (hc 0 (by decide)), h.ris.fs e (hc 0 (by decide)), h.smb.fs e (hc 0 (by decide)),
   ⟨e.blk h.cs.c (by rw [h.o2.1]; exact hc 2 (by decide)), e.blk h.cs.cw (by rw [h.o2.2.1]; exact hc 2 (by decide)), e.blk h.cs.ch (by rw [h.o2.2.2]; exact hc 2 (by decide)), h.cs.n1, h.cs.n2, h.cs.n3⟩,
   ⟨e.keep h.cs.c.lt h.o2.1, e.keep h.cs.cw.lt h.o2.2.1, e.keep h.cs.ch.lt h.o2.2.2⟩, h.row.fs e (hc 3 (by decide)), h.xb, fun i hi => (h.bk i hi).fs e (hc 0 (by decide)), e.blk h.last (by rw [h.o4]; exact hc 4 (by decide)), e.keep h.last.lt h.o4, h.log.fs e (hc 5 (by decide)), h.out.fs e (hc 6 (by decide)), h.at'.fs e (hc 7 (by decide))⟩
theorem Gt.cells {s : S} (h : Gt base ρ w g0 q G) (k : Kept q.gc q.gw q.gh w w') (hs : Cs w' 147 q.gc q.gw q.gh s) (hn : ∀ k, w'.heap.size ≤ k → ρ k = 0) : Gt base ρ w' g0 q { G with cs := s } := by
  have e : Fs (· = 2) ρ w ρ w' := Fs.kept k h.o2.1 h.o2.2.1 h.o2.2.2
  exact ⟨h.low, hn, fun k => Nat.lt_of_lt_of_le (h.cap k) (Nat.add_le_add_right e.size 8), Nat.le_trans h.bs e.size, e.blk h.blk (by rw [h.o0]; decide), h.o0, h.nds.fs e (by decide), h.ris.fs e (by decide), h.smb.fs e (by decide), hs, h.o2, h.row.fs e (by decide), h.xb, fun i hi => (h.bk i hi).fs e (by decide), e.blk h.last (by rw [h.o4]; decide), h.o4, h.log.fs e (by decide), h.out.fs e (by decide), h.at'.fs e (by decide)⟩
end
end Gow
end Go.Proofs.YtaeddnjjeholgaaGreat
