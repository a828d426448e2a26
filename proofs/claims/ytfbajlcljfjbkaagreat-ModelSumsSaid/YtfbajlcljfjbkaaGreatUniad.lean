/- Texts side by side. -/
import Derived.Lib.SliceRun
import Derived.ArgAppend
import Derived.Deep.Upon
import Derived.WalkSpells
import Derived.Deep.RegionWith
import Derived.Lib.LazyBuf
import Derived.Deep.MidRow
import Derived.Test.YtfbajlcljfjbkaaGreatUniac
set_option linter.unusedVariables false
set_option linter.unusedSimpArgs false
set_option maxRecDepth 100000
set_option maxHeartbeats 16000000
namespace Go.Proofs.YtfbajlcljfjbkaaGreat
open Kap Go.ChangeShapes Go.WideShapes Go.RowKit Mem
namespace Bkp
open Tre Ref3 Law3
theorem blk_hd{w:World}{te:TypeId}{cs:Array Value}{g:Nat}(h:g=w.heap.size):Blk (w.alloc (.cells cs te)) g te cs:=by subst h;exact Blk.fresh _ _ _
structure Od where
 a:Int
 s:Int
 x:Bool
 p:Int
 q:Int
 n:Int
 t:Int
def odA(o:Od):Value:= .agg #[.int .i64 o.a,.int .i64 o.s,.bool o.x,.int .i64 o.p,.int .i64 o.q,.int .i64 o.n,.int .i64 o.t]
def od0:Od:=⟨0,0,false,0,0,0,0⟩
structure En where
 id:Int
 o:Od
 lf:Int
 st:Int
 ep:Int
def enV(e:En):List Value:=[.int .i64 e.id,.int .i64 e.o.a,.int .i64 e.o.s,.bool e.o.x,.int .i64 e.o.p,.int .i64 e.o.q,.int .i64 e.o.n,.int .i64 e.o.t,.int .i64 e.lf,.int .i64 e.st,.int .i64 e.ep]
def enA(e:En):Value:= .agg #[.int .i64 e.id,.int .i64 e.o.a,.int .i64 e.o.s,.bool e.o.x,.int .i64 e.o.p,.int .i64 e.o.q,.int .i64 e.o.n,.int .i64 e.o.t,.int .i64 e.lf,.int .i64 e.st,.int .i64 e.ep]
def en0:En:=⟨0,od0,0,0,0⟩
def gE(l:List En)(i:Nat):En:=l.getD i en0
def ens(l:List En):List Value:=l.flatMap enV
theorem ens_len(l:List En):(ens l).length=l.length*11:=by
 induction l with
 |nil=>rfl
 |cons p l ih=>simp[ens,enV]at ih ⊢;omega
theorem ens_app(l m:List En):ens (l++m)=ens l++ens m:=by simp[ens]
theorem ens_snoc(l:List En)(e:En):ens (l++[e])=ens l++enV e:=by simp[ens]
theorem ens_one(l:List En): ∀u∈ens l,u.oneCell'=true:=by
 intro u hu;simp only[ens,List.mem_flatMap]at hu;obtain⟨e,_,he⟩:=hu;simp only[enV,List.mem_cons,List.not_mem_nil,or_false]at he;rcases he with rfl|rfl|rfl|rfl|rfl|rfl|rfl|rfl|rfl|rfl|rfl<;>rfl
theorem ens_get(l:List En)(i j:Nat)(hi:i<l.length)(hj:j<11):(ens l)[i*11+j]? =(enV (gE l i))[j]? :=by
 induction l generalizing i with
 |nil=>simp at hi
 |cons m l ih=>
  cases i with
  |zero=>
   show(enV m++ens l)[0*11+j]? =(enV m)[j]?;rw[List.getElem?_append_left (by simp[enV];omega)];simp
  |succ i=>
   have h:=ih i (by simpa using hi);show(enV m++ens l)[(i+1)*11+j]? =(enV (gE l i))[j]?;rw[List.getElem?_append_right (by simp[enV];omega),←h]
   congr 1
   simp[enV];omega
theorem ens_drop(l:List En)(k:Nat):(ens l).drop (k*11)=ens (l.drop k):=by
 induction k generalizing l with
 |zero=>simp
 |succ k ih=>
  cases l with
  |nil=>simp[ens]
  |cons e l=>
   have h:ens (e :: l)=enV e++ens l:=rfl;have e1:(k+1)*11=(enV e).length+k*11:=by simp[enV];omega
   rw[h,e1,List.drop_append,Nat.add_sub_cancel_left,ih];simp
theorem ens_take(l:List En)(k:Nat):(ens l).take (k*11)=ens (l.take k):=by
 induction k generalizing l with
 |zero=>simp[ens]
 |succ k ih=>
  cases l with
  |nil=>simp[ens]
  |cons e l=>
   have h:ens (e :: l)=enV e++ens l:=rfl;have e1:(k+1)*11=(enV e).length+k*11:=by simp[enV];omega
   rw[h,e1,List.take_append,Nat.add_sub_cancel_left,ih,List.take_of_length_le (by omega)]
   rfl
theorem Ens.at{w:World}{B:Nat}{A:Option Addr}{l:List En}(h:Rd w B A (ens l))(hi:0<l.length):
  ∃b o,A=some ⟨b,o,none⟩∧b<B∧ ∀j,j<l.length→w.cell? ⟨b,o+j*11,none⟩=some (.int .i64 (gE l j).id)∧w.cell? ⟨b,o+j*11+1,none⟩=some (.int .i64 (gE l j).o.a)∧w.cell? ⟨b,o+j*11+2,none⟩=some (.int .i64 (gE l j).o.s)∧w.cell? ⟨b,o+j*11+3,none⟩=some (.bool (gE l j).o.x)∧w.cell? ⟨b,o+j*11+4,none⟩=some (.int .i64 (gE l j).o.p)∧w.cell? ⟨b,o+j*11+5,none⟩=some (.int .i64 (gE l j).o.q)∧w.cell? ⟨b,o+j*11+6,none⟩=some (.int .i64 (gE l j).o.n)∧w.cell? ⟨b,o+j*11+7,none⟩=some (.int .i64 (gE l j).o.t)∧w.cell? ⟨b,o+j*11+8,none⟩=some (.int .i64 (gE l j).lf)∧w.cell? ⟨b,o+j*11+9,none⟩=some (.int .i64 (gE l j).st)∧w.cell? ⟨b,o+j*11+10,none⟩=some (.int .i64 (gE l j).ep):=by
 obtain⟨b,o,hA,hb,hc⟩:=Rd.at h (by intro e;have:=ens_len l;rw[e]at this;simp at this;omega);refine⟨b,o,hA,hb,fun j hj=>?_⟩
 have g: ∀k,k<11→ ∀v,(enV (gE l j))[k]? =some v→w.cell? ⟨b,o+j*11+k,none⟩=some v:=by
  intro k hk v hv;rw[Nat.add_assoc];exact hc _ _ ((ens_get l j k hj hk).trans hv)
 exact⟨g 0 (by decide) _ rfl,g 1 (by decide) _ rfl,g 2 (by decide) _ rfl,g 3 (by decide) _ rfl,g 4 (by decide) _ rfl,g 5 (by decide) _ rfl,g 6 (by decide) _ rfl,g 7 (by decide) _ rfl,g 8 (by decide) _ rfl,g 9 (by decide) _ rfl,g 10 (by decide) _ rfl⟩
structure Ro where
 ns:List Int
 sec:Int
 cnt:Int
def ro0:Ro:=⟨[],0,0⟩
def gR(l:List Ro)(i:Nat):Ro:=l.getD i ro0
structure Rc where
 A:Option Addr
 c:Nat
 r:Ro
def rc0:Rc:=⟨none,0,ro0⟩
def gC(l:List Rc)(i:Nat):Rc:=l.getD i rc0
def rcV(x:Rc):List Value:=[.slice x.A x.r.ns.length x.c,.int .i64 x.r.sec,.int .i64 x.r.cnt]
def rcs(l:List Rc):List Value:=l.flatMap rcV
theorem rcs_len(l:List Rc):(rcs l).length=l.length*3:=by
 induction l with
 |nil=>rfl
 |cons p l ih=>simp[rcs,rcV]at ih ⊢;omega
theorem rcs_one(l:List Rc): ∀u∈rcs l,u.oneCell'=true:=by
 intro u hu;simp only[rcs,List.mem_flatMap]at hu;obtain⟨e,_,he⟩:=hu;simp only[rcV,List.mem_cons,List.not_mem_nil,or_false]at he;rcases he with rfl|rfl|rfl<;>rfl
theorem rcs_get(l:List Rc)(i j:Nat)(hi:i<l.length)(hj:j<3):(rcs l)[i*3+j]? =(rcV (gC l i))[j]? :=by
 induction l generalizing i with
 |nil=>simp at hi
 |cons m l ih=>
  cases i with
  |zero=>
   show(rcV m++rcs l)[0*3+j]? =(rcV m)[j]?;rw[List.getElem?_append_left (by simp[rcV];omega)];simp
  |succ i=>
   have h:=ih i (by simpa using hi);show(rcV m++rcs l)[(i+1)*3+j]? =(rcV (gC l i))[j]?;rw[List.getElem?_append_right (by simp[rcV];omega),←h]
   congr 1
   simp[rcV];omega
theorem rcs_set(l:List Rc)(i:Nat)(x:Rc)(hi:i<l.length):rcs (l.set i x)=(((rcs l).set (i*3) (.slice x.A x.r.ns.length x.c)).set (i*3+1) (.int .i64 x.r.sec)).set (i*3+2) (.int .i64 x.r.cnt):=by
 induction l generalizing i with
 |nil=>simp at hi
 |cons m l ih=>
  cases i with
  |zero=>simp[rcs,rcV]
  |succ i=>
   have h:=ih i (by simpa using hi);have e: ∀l',rcs (m :: l')=rcV m++rcs l':=fun _=>rfl
   have e1:(i+1)*3=i*3+1+1+1:=by omega
   simp only[List.set_cons_succ];rw[e,e,h,e1];simp[rcV]
theorem rcs_setA(l:List Rc)(i:Nat)(hi:i<l.length)(A:Option Addr)(c:Nat)(ns:List Int):rcs (l.set i ⟨A,c,⟨ns,(gC l i).r.sec,(gC l i).r.cnt⟩⟩)=(rcs l).set (i*3) (.slice A ns.length c):=by
 induction l generalizing i with
 |nil=>simp at hi
 |cons m l ih=>
  cases i with
  |zero=>simp[rcs,rcV,gC]
  |succ i=>
   have h:=ih i (by simpa using hi);have e: ∀l',rcs (m :: l')=rcV m++rcs l':=fun _=>rfl
   have e1:(i+1)*3=i*3+1+1+1:=by omega
   have e2:gC (m :: l) (i+1)=gC l i:=by simp[gC]
   simp only[List.set_cons_succ];rw[e,e,e1,e2,h];simp[rcV]
theorem Rcs.at{w:World}{B:Nat}{A:Option Addr}{l:List Rc}(h:Rd w B A (rcs l))(hi:0<l.length):
  ∃b o,A=some ⟨b,o,none⟩∧b<B∧ ∀j,j<l.length→w.cell? ⟨b,o+j*3,none⟩=some (.slice (gC l j).A (gC l j).r.ns.length (gC l j).c)∧w.cell? ⟨b,o+j*3+1,none⟩=some (.int .i64 (gC l j).r.sec)∧w.cell? ⟨b,o+j*3+2,none⟩=some (.int .i64 (gC l j).r.cnt):=by
 obtain⟨b,o,hA,hb,hc⟩:=Rd.at h (by intro e;have:=rcs_len l;rw[e]at this;simp at this;omega);refine⟨b,o,hA,hb,fun j hj=>?_⟩
 have g: ∀k,k<3→ ∀v,(rcV (gC l j))[k]? =some v→w.cell? ⟨b,o+j*3+k,none⟩=some v:=by
  intro k hk v hv;rw[Nat.add_assoc];exact hc _ _ ((rcs_get l j k hj hk).trans hv)
 exact⟨g 0 (by decide) _ rfl,g 1 (by decide) _ rfl,g 2 (by decide) _ rfl⟩
structure Bk where
 sh:Int
 ca:Int
 rows:List Ro
 op:List En
structure Bm(w:World)(A C:Option Addr)(rl:List Rc)(b:Bk):Prop where
 r:Rd w w.heap.size A (rcs rl)
 e:rl.map Rc.r=b.rows
 n: ∀i,i<rl.length→Ris w w.heap.size (gC rl i).A (gC rl i).r.ns
 o:Rd w w.heap.size C (ens b.op)
theorem Bm.below{w w':World}{A C:Option Addr}{rl:List Rc}{b:Bk}(h:Bm w A C rl b)(hb:Below w.heap.size w w'):Bm w' A C rl b:=
 ⟨Rd.below' h.r hb hb.size,h.e,fun i hi=>Rd.below' (h.n i hi) hb hb.size,Rd.below' h.o hb hb.size⟩
theorem Bm.len{w:World}{A C:Option Addr}{rl:List Rc}{b:Bk}(h:Bm w A C rl b):rl.length=b.rows.length:=by rw[←h.e];simp
theorem gC_row{rl:List Rc}{rows:List Ro}(e:rl.map Rc.r=rows){i:Nat}(hi:i<rl.length):(gC rl i).r=gR rows i:=by
 subst e;simp[gC,gR,hi]
def bkA(A C:Option Addr)(c d:Nat)(b:Bk):Value:= .agg #[.int .i64 b.sh,.int .i64 b.ca,.slice A b.rows.length c,.slice C b.op.length d]
def MadeBk(b:Bk)(w:World)(e:Ending)(w':World):Prop:=
 ∃A C c d rl,e= .returned (bkA A C c d b)∧Bm w' A C rl b∧Below w.heap.size w w'
end Bkp
namespace Dlk
variable {P:Program}
variable {xs:List Value} {base cap g n size:Nat} {e:TypeId} {w w':World}
theorem zeroCells_len(z:Array Value)(n:Nat):(Builtin.zeroCells z n).toList.length=n*z.size:=by simp[Builtin.zeroCells]
theorem zeroCells_one(z:Array Value)(n:Nat)(h: ∀u∈z,u.oneCell'=true)(h0:0<z.size): ∀u∈(Builtin.zeroCells z n).toList,u.oneCell'=true:=by
 intro u hu;simp only[Builtin.zeroCells,Array.toList_map,List.mem_map]at hu;obtain⟨i,_,rfl⟩:=hu;have hm:i%z.size<z.size:=Nat.mod_lt _ h0;rw[getElem!_pos z (i%z.size) hm];exact h _ (Array.getElem_mem hm)
theorem run_clear_any(w:World)(t e ty:TypeId)(z:Value)(ht:P.underlying t=some (.slice e))(hv: ∀w,(zeroValue e).run P w= .ok z w)(size:Nat)(hs:z.cells.size=size)(h0:0<size)(h1: ∀u∈z.cells,u.oneCell'=true)(b o n c:Nat)(hn:0<n)
  (hc: ∀j,j<n*size→(w.cell? ⟨b,o+j,none⟩).isSome=true)(hf: ∀j,j<n*size→w.frozen? ⟨b,o+j,none⟩=false):
  (Builtin.clear_ #[t] ty #[.slice (some ⟨b,o,none⟩) n c]).run P w= .ok (.tuple #[]) (w.setCells b o (Builtin.zeroCells z.cells n).toList):=by
 have hl:=zeroCells_len z.cells n;rw[hs]at hl;have hst:=run_storeCells_cells (P:=P) b o (Builtin.zeroCells z.cells n).toList 0 w (by rw[hl];simpa using hc) (by rw[hl];simpa using hf) (zeroCells_one _ _ h1 (by omega));simp only[Nat.add_zero]at hst;obtain⟨m,rfl⟩: ∃m,n=m+1:=⟨n-1,by omega⟩;simp[Builtin.clear_,run_underlying ht,hv,hst]
theorem own_room(h:w.ownsRow base e size (.slice (some ⟨g,0,none⟩) n cap) n xs):
  base≤g∧g<w.heap.size∧n≤cap∧cap≤maxLen∧(∀j,j<cap*size→(w.cell? ⟨g,j,none⟩).isSome=true∧w.frozen? ⟨g,j,none⟩=false)∧(∀j u,xs[j]? =some u→w.cell? ⟨g,j,none⟩=some u):=by
 rcases h.2 with⟨h',_⟩|⟨g',cap',cur,h',hb,hg,hnc,hcm,hcs,htake⟩
 ·simp at h'
 ·simp only[Value.slice.injEq,Option.some.injEq,Addr.mk.injEq,and_true,true_and]at h';obtain⟨rfl,rfl⟩:=h';refine⟨hb,(Array.getElem?_eq_some_iff.1 hg).1,hnc,hcm,fun j hj=>?_,fun j u hu=>?_⟩
  ·rw[cell_of_row w g j cur e (0,0) hg];exact⟨by rw[Array.getElem?_eq_getElem (by omega)];rfl,frozen_of_row w g j cur e hg⟩
  ·rw[cell_of_row w g j cur e (0,0) hg];rw[←htake]at hu;rw[List.getElem?_take]at hu;split at hu
   ·simpa using hu
   ·simp at hu
theorem grown_setCells(h:w.grownBy w' (some g)): ∀(vs:List Value) (o:Nat),w.grownBy (w'.setCells g o vs) (some g):=by
 intro vs
 induction vs generalizing w' with
 |nil=>intro o;exact h
 |cons v r ih=>
  intro o;refine ih (w':=w'.setCell (α g o) v) ⟨h.os,h.tape,h.output,by simpa[World.setCell] using h.size,fun k hk hne=>?_⟩ (o+1);exact(heap_setCell_other w' (α g o) k v (fun e=>hne (by simp[e]))).trans (h.block k hk hne)
theorem grown_refl(w:World)(r:Option Nat):w.grownBy w r:=⟨rfl,rfl,rfl,τ,fun _ _ _=>rfl⟩
theorem grown_drew{r:Option Nat}(h:w.grownBy w' r):w.grownBy w'.drew r:=⟨h.os,h.tape,h.output,h.size,h.block⟩
theorem del_reads{i j:Nat}(h:w.ownsRow base e size (.slice (some ⟨g,0,none⟩) n cap) n xs)(hij:i≤j)(hj:j≤n)(zs:List Value):
  Rd ((w.drew.setCells g (i*size) (xs.drop (j*size))).setCells g ((i+(n-j))*size) zs) ((w.drew.setCells g (i*size) (xs.drop (j*size))).setCells g ((i+(n-j))*size) zs).heap.size (some ⟨g,0,none⟩) (xs.take (i*size)++xs.drop (j*size)):=by
 obtain⟨hb,hlt,hnc,hcm,hroom,hcell⟩:=own_room h;have hlen:xs.length=n*size:=h.1;have l1:(xs.drop (j*size)).length=(n-j)*size:=by rw[List.length_drop,hlen,Nat.sub_mul]
 have hle:j*size≤n*size:=Nat.mul_le_mul_right _ hj;have hie:i*size≤j*size:=Nat.mul_le_mul_right _ hij;have hcap:n*size≤cap*size:=Nat.mul_le_mul_right _ hnc;have e1:(i+(n-j))*size=i*size+(n-j)*size:=Nat.add_mul _ _ _;have e2:(n-j)*size=n*size-j*size:=Nat.sub_mul _ _ _;have gr:w.grownBy ((w.drew.setCells g (i*size) (xs.drop (j*size))).setCells g ((i+(n-j))*size) zs) (some g):=grown_setCells (grown_setCells (grown_drew (grown_refl w _)) _ _) _ _;refine .inr ⟨g,0,rfl,by have:=gr.size;omega,fun t v hv=>?_⟩
 have ht:t<i*size+(n-j)*size:=by
  have:=(List.getElem?_eq_some_iff.1 hv).1;rw[List.length_append,l1,List.length_take]at this;omega
 rw[Nat.zero_add,World.cell?_setCells_out g zs _ _ ⟨g,t,none⟩ (fun _ _=>Or.inl (by simp only[];omega))];by_cases h1:t<i*size
 ·rw[World.cell?_setCells_out g _ _ _ ⟨g,t,none⟩ (fun _ _=>Or.inl h1)];rw[List.getElem?_append_left (by rw[List.length_take];omega),List.getElem?_take,if_pos h1]at hv;exact hcell t v hv
 ·obtain⟨k,rfl⟩: ∃k,t=i*size+k:=⟨t-i*size,by omega⟩;have hk:k<(xs.drop (j*size)).length:=by omega
  have:=World.cell?_setCells_in g (xs.drop (j*size)) (i*size) w.drew (fun q hq=>by rw[l1]at hq;exact(hroom (i*size+q) (by omega)).1) k hk;rw[this];rw[List.getElem?_append_right (by rw[List.length_take];omega),List.length_take,show i*size+k-min (i*size) xs.length=k by omega]at hv;rw[List.getElem?_eq_getElem hk]at hv;exact hv
end Dlk
namespace Crd
open Go.ChangeAt Tre Ref3 Law3
theorem i64_info:(Tryz.prog.info? 2).map (fun i=>(i.zero,i.size,i.bytes))=some (some (.int .i64 0),1,8):=by kernel_rfl
def OwnN(base:Nat)(w:World)(A:Option Addr)(c:Nat)(l:List (Int×Int)):Prop:=w.ownsRow base 141 2 (.slice A l.length c) l.length (nds l)
def OwnI(base:Nat)(w:World)(A:Option Addr)(c:Nat)(u:List Int):Prop:=w.ownsRow base 2 1 (.slice A u.length c) u.length (ints u)
def MadeOwnN(l:List (Int×Int))(w:World)(e:Ending)(w':World):Prop:= ∃A c,e= .returned (.slice A l.length c)∧OwnN w.heap.size w' A c l∧Below w.heap.size w w'
def MadeOwnI(u:List Int)(w:World)(e:Ending)(w':World):Prop:= ∃A c,e= .returned (.slice A u.length c)∧OwnI w.heap.size w' A c u∧Below w.heap.size w w'
theorem cloneN_any(A:Option Addr)(c:Nat)(l:List (Int×Int))(w:World)(hl:Hid (Nds w w.heap.size A l))(hmax:(l.length:Int)≤1000000):
  Calls Tryz.prog 54 #[.slice A l.length c] w (MadeOwnN l w):=by
 obtain⟨i0,hi,hz0,hz1,hz2⟩:=info_parts node_info;have hq:=fun(W:World) (n c:Nat)=>Lib.run_eql_slice_nil (P:=Tryz.prog) W 37 141 A n c 0 0 Tryz.underlying37
 cases A with
 |none=>
  have hl0:l=[]:=by
   rcases hl.out with h|⟨b,o,h,_⟩
   ·have:=nds_len l;rw[h]at this;simp at this;exact List.eq_nil_of_length_eq_zero (by omega)
   ·cases h
  subst hl0
  go_enter Tryz.func54,Tryz.ntmps54
  go_wp2_with fail
  go_ret;exact⟨none,0,rfl,World.ownsRow_nil _ _ _ _,Below.refl _ _⟩
 |some ad=>
  have hl1:Hid (Rd (w.alloc (.cells #[] 141)) w.heap.size (some ad) (nds l)):=Rd.below hl.out (ψ.alloc τ _);have how:Hid ((w.alloc (.cells #[] 141)).ownsRow w.heap.size 141 2 (.slice (some (α w.heap.size 0)) 0 0) 0 []):=own_empty (Blk.fresh w _ _) τ;have hb0:Below w.heap.size w (w.alloc (.cells #[] 141)):=β w (.cells #[] 141)
  go_enter Tryz.func54,Tryz.ntmps54
  go_wp2_with (at_builtin;go_loud (refine wpList_appR (nm:=l.length) how hb0 hl1 (by simp) rfl _ _ _ rfl i0 (.agg #[.int .i64 0,.int .i64 0]) 16 Tryz.underlying37 hi hz0 hz1 hz2 rfl (by decide) rfl rfl (nds_len l) (nds_one l) (by unfold maxLen;omega) (by omega) τ (by simp) (by simp) ?_);intro A1 c1 w1 hown1 hbel1 hsz1)
  go_ret;exact⟨A1,c1,rfl,hown1,hbel1⟩
theorem cloneI_any(A:Option Addr)(c:Nat)(l:List Int)(w:World)(hl:Hid (Ris w w.heap.size A l))(hmax:(l.length:Int)≤1000000):
  Calls Tryz.prog 55 #[.slice A l.length c] w (MadeOwnI l w):=by
 obtain⟨i0,hi,hz0,hz1,hz2⟩:=info_parts i64_info;have hq:=fun(W:World) (n c:Nat)=>Lib.run_eql_slice_nil (P:=Tryz.prog) W 78 2 A n c 0 0 Tryz.underlying78
 cases A with
 |none=>
  have hl0:l=[]:=by
   rcases hl.out with h|⟨b,o,h,_⟩
   ·have:=ints_len l;rw[h]at this;simp at this;exact List.eq_nil_of_length_eq_zero (by omega)
   ·cases h
  subst hl0
  go_enter Tryz.func55,Tryz.ntmps55
  go_wp2_with fail
  go_ret;exact⟨none,0,rfl,World.ownsRow_nil _ _ _ _,Below.refl _ _⟩
 |some ad=>
  have hl1:Hid (Rd (w.alloc (.cells #[] 2)) w.heap.size (some ad) (ints l)):=Rd.below hl.out (ψ.alloc τ _);have how:Hid ((w.alloc (.cells #[] 2)).ownsRow w.heap.size 2 1 (.slice (some (α w.heap.size 0)) 0 0) 0 []):=own_empty (Blk.fresh w _ _) τ;have hb0:Below w.heap.size w (w.alloc (.cells #[] 2)):=β w (.cells #[] 2)
  go_enter Tryz.func55,Tryz.ntmps55
  go_wp2_with (at_builtin;go_loud (refine wpList_appR (nm:=l.length) how hb0 hl1 (by simp) rfl _ _ _ rfl i0 (.int .i64 0) 8 Tryz.underlying78 hi hz0 hz1 hz2 rfl (by decide) rfl rfl (by rw[ints_len];omega) (ints_one l) (by unfold maxLen;omega) (by omega) τ (by simp) (by simp) ?_);intro A1 c1 w1 hown1 hbel1 hsz1)
  go_ret;exact⟨A1,c1,rfl,hown1,hbel1⟩
end Crd
namespace Bcl
open Go.ChangeAt Tre Ref3 Law3 Crd Bkp Dlk
theorem ints_len1(l:List Int):(ints l).length=l.length*1:=by rw[ints_len];omega
def MadeOw(te:TypeId)(size:Nat)(n:Nat)(xs:List Value)(w:World)(e:Ending)(w':World):Prop:=
 ∃A c,e= .returned (.slice A n c)∧w'.ownsRow w.heap.size te size (.slice A n c) n xs∧Below w.heap.size w w'
theorem infoR:(Tryz.prog.info? 154).map (fun i=>(i.zero,i.size,i.bytes))=some (some (.agg #[.slice none 0 0,.int .i64 0,.int .i64 0]),3,40):=by kernel_rfl
theorem cloneR(A:Option Addr)(n c:Nat)(l:List Rc)(w:World)(hn:Hid (n=l.length))(hl:Hid (Rd w w.heap.size A (rcs l)))(hmax:(n:Int)≤1000000):
  Calls Tryz.prog 94 #[.slice A n c] w (MadeOw 154 3 n (rcs l) w):=by
 obtain⟨i0,hi,hz0,hz1,hz2⟩:=info_parts infoR;have hq:=fun(W:World) (n c:Nat)=>Lib.run_eql_slice_nil (P:=Tryz.prog) W 72 154 A n c 0 0 Tryz.underlying72
 have hln:Hid ((rcs l).length=n*3):=by show _=_;rw[hn.out];exact rcs_len l
 cases A with
 |none=>
  have hl0:rcs l=[]:=by
   rcases hl.out with h|⟨b,o,h,_⟩
   ·exact h
   ·cases h
  have hn0:n=0:=by have:=hln.out;rw[hl0]at this;simp at this;omega
  have HL:=κ hl0;clear hn hln hl0;subst hn0
  go_enter Tryz.func94,Tryz.ntmps94
  go_wp2_with fail
  go_ret;rw[HL.out];exact⟨none,0,rfl,World.ownsRow_nil _ _ _ _,Below.refl _ _⟩
 |some ad=>
  have hl1:Hid (Rd (w.alloc (.cells #[] 154)) w.heap.size (some ad) (rcs l)):=Rd.below hl.out (ψ.alloc τ _);have how:Hid ((w.alloc (.cells #[] 154)).ownsRow w.heap.size 154 3 (.slice (some (α w.heap.size 0)) 0 0) 0 []):=own_empty (Blk.fresh w _ _) τ;have hb0:=β w (.cells #[] 154)
  go_enter Tryz.func94,Tryz.ntmps94
  go_wp2_with (at_builtin;go_loud (refine wpList_appR (nm:=n) how hb0 hl1 (by simp) rfl _ _ _ rfl i0 (.agg #[.slice none 0 0,.int .i64 0,.int .i64 0]) 40 Tryz.underlying72 hi hz0 hz1 hz2 rfl (by decide) rfl rfl hln.out (rcs_one l) (by unfold maxLen;omega) (by omega) τ (by simp) (by simp) ?_);intro A1 c1 w1 hown1 hbel1 hsz1)
  go_ret;exact⟨A1,c1,rfl,hown1,hbel1⟩
theorem infoE:(Tryz.prog.info? 157).map (fun i=>(i.zero,i.size,i.bytes))=some (some (.agg #[.int .i64 0,.int .i64 0,.int .i64 0,.bool false,.int .i64 0,.int .i64 0,.int .i64 0,.int .i64 0,.int .i64 0,.int .i64 0,.int .i64 0]),11,88):=by kernel_rfl
theorem cloneE(A:Option Addr)(n c:Nat)(l:List En)(w:World)(hn:Hid (n=l.length))(hl:Hid (Rd w w.heap.size A (ens l)))(hmax:(n:Int)≤1000000):
  Calls Tryz.prog 93 #[.slice A n c] w (MadeOw 157 11 n (ens l) w):=by
 obtain⟨i0,hi,hz0,hz1,hz2⟩:=info_parts infoE;have hq:=fun(W:World) (n c:Nat)=>Lib.run_eql_slice_nil (P:=Tryz.prog) W 73 157 A n c 0 0 Tryz.underlying73
 have hln:Hid ((ens l).length=n*11):=by show _=_;rw[hn.out];exact ens_len l
 cases A with
 |none=>
  have hl0:ens l=[]:=by
   rcases hl.out with h|⟨b,o,h,_⟩
   ·exact h
   ·cases h
  have hn0:n=0:=by have:=hln.out;rw[hl0]at this;simp at this;omega
  have HL:=κ hl0;clear hn hln hl0;subst hn0
  go_enter Tryz.func93,Tryz.ntmps93
  go_wp2_with fail
  go_ret;rw[HL.out];exact⟨none,0,rfl,World.ownsRow_nil _ _ _ _,Below.refl _ _⟩
 |some ad=>
  have hl1:Hid (Rd (w.alloc (.cells #[] 157)) w.heap.size (some ad) (ens l)):=Rd.below hl.out (ψ.alloc τ _);have how:Hid ((w.alloc (.cells #[] 157)).ownsRow w.heap.size 157 11 (.slice (some (α w.heap.size 0)) 0 0) 0 []):=own_empty (Blk.fresh w _ _) τ;have hb0:=β w (.cells #[] 157)
  go_enter Tryz.func93,Tryz.ntmps93
  go_wp2_with (at_builtin;go_loud (refine wpList_appR (nm:=n) how hb0 hl1 (by simp) rfl _ _ _ rfl i0 (.agg #[.int .i64 0,.int .i64 0,.int .i64 0,.bool false,.int .i64 0,.int .i64 0,.int .i64 0,.int .i64 0,.int .i64 0,.int .i64 0,.int .i64 0]) 88 Tryz.underlying73 hi hz0 hz1 hz2 rfl (by decide) rfl rfl hln.out (ens_one l) (by unfold maxLen;omega) (by omega) τ (by simp) (by simp) ?_);intro A1 c1 w1 hown1 hbel1 hsz1)
  go_ret;exact⟨A1,c1,rfl,hown1,hbel1⟩
theorem infoI:(Tryz.prog.info? 2).map (fun i=>(i.zero,i.size,i.bytes))=some (some (.int .i64 0),1,8):=by kernel_rfl
theorem cloneI(A:Option Addr)(n c:Nat)(l:List Int)(w:World)(hn:Hid (n=l.length))(hl:Hid (Rd w w.heap.size A (ints l)))(hmax:(n:Int)≤1000000):
  Calls Tryz.prog 55 #[.slice A n c] w (MadeOw 2 1 n (ints l) w):=by
 obtain⟨i0,hi,hz0,hz1,hz2⟩:=info_parts infoI;have hq:=fun(W:World) (n c:Nat)=>Lib.run_eql_slice_nil (P:=Tryz.prog) W 78 2 A n c 0 0 Tryz.underlying78
 have hln:Hid ((ints l).length=n*1):=by show _=_;rw[hn.out];exact ints_len1 l
 cases A with
 |none=>
  have hl0:ints l=[]:=by
   rcases hl.out with h|⟨b,o,h,_⟩
   ·exact h
   ·cases h
  have hn0:n=0:=by have:=hln.out;rw[hl0]at this;simp at this;omega
  have HL:=κ hl0;clear hn hln hl0;subst hn0
  go_enter Tryz.func55,Tryz.ntmps55
  go_wp2_with fail
  go_ret;rw[HL.out];exact⟨none,0,rfl,World.ownsRow_nil _ _ _ _,Below.refl _ _⟩
 |some ad=>
  have hl1:Hid (Rd (w.alloc (.cells #[] 2)) w.heap.size (some ad) (ints l)):=Rd.below hl.out (ψ.alloc τ _);have how:Hid ((w.alloc (.cells #[] 2)).ownsRow w.heap.size 2 1 (.slice (some (α w.heap.size 0)) 0 0) 0 []):=own_empty (Blk.fresh w _ _) τ;have hb0:=β w (.cells #[] 2)
  go_enter Tryz.func55,Tryz.ntmps55
  go_wp2_with (at_builtin;go_loud (refine wpList_appR (nm:=n) how hb0 hl1 (by simp) rfl _ _ _ rfl i0 (.int .i64 0) 8 Tryz.underlying78 hi hz0 hz1 hz2 rfl (by decide) rfl rfl hln.out (ints_one l) (by unfold maxLen;omega) (by omega) τ (by simp) (by simp) ?_);intro A1 c1 w1 hown1 hbel1 hsz1)
  go_ret;exact⟨A1,c1,rfl,hown1,hbel1⟩
theorem deleteI(g n cap i j:Nat)(xs:List Value)(base:Nat)(w:World)(how:Hid (w.ownsRow base 2 1 (.slice (some ⟨g,0,none⟩) n cap) n xs))(h1c:Hid (∀u∈xs,u.oneCell'=true))(hij:i<j)(hj:j≤n)(hcap:(cap:Int)≤9223372036854775807):
  Calls Tryz.prog 127 #[.slice (some ⟨g,0,none⟩) n cap,.int .i64 i,.int .i64 j] w (fun e w'=>e= .returned (.slice (some ⟨g,0,none⟩) (i+(n-j)) cap)∧Rd w' w'.heap.size (some ⟨g,0,none⟩) (xs.take (i*1)++xs.drop (j*1))∧w.grownBy w' (some g)):=by
 obtain⟨i0,hi,hz0,hz1,hz2⟩:=info_parts infoI;obtain⟨hb,hlt,hnc,hcm,hroom,hcell⟩:=own_room how.out;have hxl:=κ how.out.1;obtain⟨news,hnews⟩:=ν (xs.drop (j*1));have hlen:Hid (news.length=(n-j)*1):=by show _=_;rw[hnews,List.length_drop,hxl.out];omega
 obtain⟨A,hA,hsrc⟩: ∃A:Addr,(if cap=j then some (⟨g,0,none⟩:Addr) else some ⟨g,j,none⟩)=some A∧Hid (∀t u,news[t]? =some u→w.drew.cell? (A.add t)=some u):=by
  by_cases h:cap=j
  ·refine⟨(α g 0),by simp[h],fun t u hu=>?_⟩;have h0:news.length=0:=by rw[hlen.out];omega
   rw[List.length_eq_zero_iff.1 h0]at hu;simp at hu
  ·refine⟨(α g j),by simp[h],fun t u hu=>?_⟩;rw[hnews,List.getElem?_drop]at hu;rw[Addr.add_lit];exact hcell _ u (by first|exact hu|simpa using hu)
 have s2:Hid (∀u∈news,u.oneCell'=true):=by
  intro u hu;rw[hnews]at hu;exact h1c.out u (List.mem_of_mem_drop hu)
 have s3:Hid (∀t,t<news.length→(w.drew.cell? (α g (0+i*1+t))).isSome=true∧w.drew.frozen? (α g (0+i*1+t))=false):=by
  intro t ht;rw[hlen.out]at ht;rw[Nat.zero_add];exact hroom (i*1+t) (by omega)
 obtain⟨W1,hW1⟩:=ν (w.drew.setCells g (0+i*1) news);have gr1:w.grownBy W1 (some g):=by rw[hW1];exact grown_setCells (grown_drew (grown_refl w _)) _ _
 have hroom1: ∀t,t<cap*1→(W1.cell? (α g t)).isSome=true∧W1.frozen? (α g t)=false:=by
  intro t ht;rw[hW1];exact⟨World.isSome_setCells g _ _ _ _ (hroom t ht).1,by rw[World.frozen?_setCells];exact(hroom t ht).2⟩
 obtain⟨zs,hzs⟩:=ν ((Builtin.zeroCells (Value.cells (.int .i64 0)) (n-(i+(n-j)))).toList)
 have hcl: ∀ty,(Builtin.clear_ #[78] ty #[.slice (some (α g (i+(n-j)))) (n-(i+(n-j))) (cap-(i+(n-j)))]).run Tryz.prog W1= .ok (.tuple #[]) (W1.setCells g (i+(n-j)) zs):=by
  intro ty;rw[hzs];exact run_clear_any W1 _ _ ty _ Tryz.underlying78 Tryz.zeroValue2 1 rfl (by decide) (by simp[Value.cells,Value.oneCell']) g _ _ _ (by omega) (fun t ht=>(hroom1 ((i+(n-j))+t) (by omega)).1) (fun t ht=>(hroom1 ((i+(n-j))+t) (by omega)).2)
 have hfin:Hid (Rd (W1.setCells g (i+(n-j)) zs) (W1.setCells g (i+(n-j)) zs).heap.size (some (α g 0)) (xs.take (i*1)++xs.drop (j*1))∧w.grownBy (W1.setCells g (i+(n-j)) zs) (some g)):=by
  refine⟨?_,grown_setCells gr1 _ _⟩;rw[hW1,hnews,Nat.zero_add];have h9:=del_reads (i:=i) (j:=j) how.out (by omega) hj zs;simpa only[Nat.mul_one] using h9
 have hW:=κ hW1;have hic:i≤cap:=by omega
 have hjc:j≤cap:=by omega
 have hne:i≠j:=by omega
 clear hW1 hroom hroom1 gr1 hcell hnews hzs how h1c
 go_enter Tryz.func127,Tryz.ntmps127
 go_wp2_with fail
 go_region_law (refine step_append_room rfl (.tmp 22) (.tmp 25) 78 rfl 2 i0 1 Tryz.underlying78 hi hz1 g 0 i cap (by simp[Act.eval,Act.put]) A (n-j) (cap-j) news (by simp[Act.eval,Act.put]) hlen.out hsrc.out s2.out (by omega) s3.out ?_;rw[←hW.out])
 go_wp2_with fail
 go_ret;exact⟨rfl,hfin.out⟩
theorem deleteE(g n cap i j:Nat)(xs:List Value)(base:Nat)(w:World)(how:Hid (w.ownsRow base 157 11 (.slice (some ⟨g,0,none⟩) n cap) n xs))(h1c:Hid (∀u∈xs,u.oneCell'=true))(hij:i<j)(hj:j≤n)(hcap:(cap:Int)≤9223372036854775807):
  Calls Tryz.prog 114 #[.slice (some ⟨g,0,none⟩) n cap,.int .i64 i,.int .i64 j] w (fun e w'=>e= .returned (.slice (some ⟨g,0,none⟩) (i+(n-j)) cap)∧Rd w' w'.heap.size (some ⟨g,0,none⟩) (xs.take (i*11)++xs.drop (j*11))∧w.grownBy w' (some g)):=by
 obtain⟨i0,hi,hz0,hz1,hz2⟩:=info_parts infoE;obtain⟨hb,hlt,hnc,hcm,hroom,hcell⟩:=own_room how.out;have hxl:=κ how.out.1;obtain⟨news,hnews⟩:=ν (xs.drop (j*11));have hlen:Hid (news.length=(n-j)*11):=by show _=_;rw[hnews,List.length_drop,hxl.out];omega
 obtain⟨A,hA,hsrc⟩: ∃A:Addr,(if cap=j then some (⟨g,0,none⟩:Addr) else some ⟨g,j*11,none⟩)=some A∧Hid (∀t u,news[t]? =some u→w.drew.cell? (A.add t)=some u):=by
  by_cases h:cap=j
  ·refine⟨(α g 0),by simp[h],fun t u hu=>?_⟩;have h0:news.length=0:=by rw[hlen.out];omega
   rw[List.length_eq_zero_iff.1 h0]at hu;simp at hu
  ·refine⟨(α g (j*11)),by simp[h],fun t u hu=>?_⟩;rw[hnews,List.getElem?_drop]at hu;rw[Addr.add_lit];exact hcell _ u (by first|exact hu|simpa using hu)
 have s2:Hid (∀u∈news,u.oneCell'=true):=by
  intro u hu;rw[hnews]at hu;exact h1c.out u (List.mem_of_mem_drop hu)
 have s3:Hid (∀t,t<news.length→(w.drew.cell? (α g (0+i*11+t))).isSome=true∧w.drew.frozen? (α g (0+i*11+t))=false):=by
  intro t ht;rw[hlen.out]at ht;rw[Nat.zero_add];exact hroom (i*11+t) (by omega)
 obtain⟨W1,hW1⟩:=ν (w.drew.setCells g (0+i*11) news);have gr1:w.grownBy W1 (some g):=by rw[hW1];exact grown_setCells (grown_drew (grown_refl w _)) _ _
 have hroom1: ∀t,t<cap*11→(W1.cell? (α g t)).isSome=true∧W1.frozen? (α g t)=false:=by
  intro t ht;rw[hW1];exact⟨World.isSome_setCells g _ _ _ _ (hroom t ht).1,by rw[World.frozen?_setCells];exact(hroom t ht).2⟩
 obtain⟨zs,hzs⟩:=ν ((Builtin.zeroCells (Value.cells (.agg #[.int .i64 0,.int .i64 0,.int .i64 0,.bool false,.int .i64 0,.int .i64 0,.int .i64 0,.int .i64 0,.int .i64 0,.int .i64 0,.int .i64 0])) (n-(i+(n-j)))).toList)
 have hcl: ∀ty,(Builtin.clear_ #[73] ty #[.slice (some (α g ((i+(n-j))*11))) (n-(i+(n-j))) (cap-(i+(n-j)))]).run Tryz.prog W1= .ok (.tuple #[]) (W1.setCells g ((i+(n-j))*11) zs):=by
  intro ty;rw[hzs];exact run_clear_any W1 _ _ ty _ Tryz.underlying73 Tryz.zeroValue157 11 rfl (by decide) (by simp[Value.cells,Value.oneCell']) g _ _ _ (by omega) (fun t ht=>(hroom1 (((i+(n-j))*11)+t) (by omega)).1) (fun t ht=>(hroom1 (((i+(n-j))*11)+t) (by omega)).2)
 have hfin:Hid (Rd (W1.setCells g ((i+(n-j))*11) zs) (W1.setCells g ((i+(n-j))*11) zs).heap.size (some (α g 0)) (xs.take (i*11)++xs.drop (j*11))∧w.grownBy (W1.setCells g ((i+(n-j))*11) zs) (some g)):=by
  refine⟨?_,grown_setCells gr1 _ _⟩;rw[hW1,hnews,Nat.zero_add];exact del_reads (i:=i) (j:=j) how.out (by omega) hj zs
 have hW:=κ hW1;have hic:i≤cap:=by omega
 have hjc:j≤cap:=by omega
 have hne:i≠j:=by omega
 clear hW1 hroom hroom1 gr1 hcell hnews hzs how h1c
 go_enter Tryz.func114,Tryz.ntmps114
 go_wp2_with fail
 go_region_law (refine step_append_room rfl (.tmp 22) (.tmp 25) 73 rfl 157 i0 11 Tryz.underlying73 hi hz1 g 0 i cap (by simp[Act.eval,Act.put]) A (n-j) (cap-j) news (by simp[Act.eval,Act.put]) hlen.out hsrc.out s2.out (by omega) s3.out ?_;rw[←hW.out])
 go_wp2_with fail
 go_ret;exact⟨rfl,hfin.out⟩
end Bcl
end Go.Proofs.YtfbajlcljfjbkaaGreat
