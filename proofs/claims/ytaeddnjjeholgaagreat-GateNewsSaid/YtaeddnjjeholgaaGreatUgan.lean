/- Texts side by side. -/
import Derived.Lib.SliceRun
import Derived.ArgAppend
import Derived.Deep.Upon
import Derived.Test.YtaeddnjjeholgaaGreatUgad
set_option linter.unusedVariables false
set_option linter.unusedSimpArgs false
set_option maxRecDepth 100000
set_option maxHeartbeats 16000000
namespace Go.Proofs.YtaeddnjjeholgaaGreat
open Kap Go.ChangeShapes Go.WideShapes Go.RowKit Mem
namespace Bkp
open Tre Ref3 Law3
theorem blk_hd{w:World}{te:TypeId}{cs:Array Value}{g:Nat}(h:g=w.heap.size):Blk (w.alloc (.cells cs te)) g te cs:=by subst h;exact Blk.fresh _ _ _
structure Od where
 a:Int
 s:Int
 x:Bool
 p:Int
 q:Int
 n:Int
 t:Int
def odV(o:Od):List Value:=[.int .i64 o.a,.int .i64 o.s,.bool o.x,.int .i64 o.p,.int .i64 o.q,.int .i64 o.n,.int .i64 o.t]
def odA(o:Od):Value:= .agg #[.int .i64 o.a,.int .i64 o.s,.bool o.x,.int .i64 o.p,.int .i64 o.q,.int .i64 o.n,.int .i64 o.t]
def od0:Od:=⟨0,0,false,0,0,0,0⟩
structure En where
 id:Int
 o:Od
 lf:Int
 st:Int
 ep:Int
def enV(e:En):List Value:=[.int .i64 e.id,.int .i64 e.o.a,.int .i64 e.o.s,.bool e.o.x,.int .i64 e.o.p,.int .i64 e.o.q,.int .i64 e.o.n,.int .i64 e.o.t,.int .i64 e.lf,.int .i64 e.st,.int .i64 e.ep]
def enA(e:En):Value:= .agg #[.int .i64 e.id,.int .i64 e.o.a,.int .i64 e.o.s,.bool e.o.x,.int .i64 e.o.p,.int .i64 e.o.q,.int .i64 e.o.n,.int .i64 e.o.t,.int .i64 e.lf,.int .i64 e.st,.int .i64 e.ep]
def en0:En:=⟨0,od0,0,0,0⟩
def gE(l:List En)(i:Nat):En:=l.getD i en0
def ens(l:List En):List Value:=l.flatMap enV
theorem ens_len(l:List En):(ens l).length=l.length*11:=by
 induction l with
 |nil=>rfl
 |cons p l ih=>simp[ens,enV]at ih ⊢;omega
theorem ens_snoc(l:List En)(e:En):ens (l++[e])=ens l++enV e:=by simp[ens]
theorem ens_one(l:List En): ∀u∈ens l,u.oneCell'=true:=by
 intro u hu;simp only[ens,List.mem_flatMap]at hu;obtain⟨e,_,he⟩:=hu;simp only[enV,List.mem_cons,List.not_mem_nil,or_false]at he;rcases he with rfl|rfl|rfl|rfl|rfl|rfl|rfl|rfl|rfl|rfl|rfl<;>rfl
theorem ens_get(l:List En)(i j:Nat)(hi:i<l.length)(hj:j<11):(ens l)[i*11+j]? =(enV (gE l i))[j]? :=by
 induction l generalizing i with
 |nil=>simp at hi
 |cons m l ih=>
  cases i with
  |zero=>
   show(enV m++ens l)[0*11+j]? =(enV m)[j]?;rw[List.getElem?_append_left (by simp[enV];omega)];simp
  |succ i=>
   have h:=ih i (by simpa using hi);show(enV m++ens l)[(i+1)*11+j]? =(enV (gE l i))[j]?;rw[List.getElem?_append_right (by simp[enV];omega),←h]
   congr 1
   simp[enV];omega
theorem Ens.at{w:World}{B:Nat}{A:Option Addr}{l:List En}(h:Rd w B A (ens l))(hi:0<l.length):
  ∃b o,A=some ⟨b,o,none⟩∧b<B∧ ∀j,j<l.length→w.cell? ⟨b,o+j*11,none⟩=some (.int .i64 (gE l j).id)∧w.cell? ⟨b,o+j*11+1,none⟩=some (.int .i64 (gE l j).o.a)∧w.cell? ⟨b,o+j*11+2,none⟩=some (.int .i64 (gE l j).o.s)∧w.cell? ⟨b,o+j*11+3,none⟩=some (.bool (gE l j).o.x)∧w.cell? ⟨b,o+j*11+4,none⟩=some (.int .i64 (gE l j).o.p)∧w.cell? ⟨b,o+j*11+5,none⟩=some (.int .i64 (gE l j).o.q)∧w.cell? ⟨b,o+j*11+6,none⟩=some (.int .i64 (gE l j).o.n)∧w.cell? ⟨b,o+j*11+7,none⟩=some (.int .i64 (gE l j).o.t)∧w.cell? ⟨b,o+j*11+8,none⟩=some (.int .i64 (gE l j).lf)∧w.cell? ⟨b,o+j*11+9,none⟩=some (.int .i64 (gE l j).st)∧w.cell? ⟨b,o+j*11+10,none⟩=some (.int .i64 (gE l j).ep):=by
 obtain⟨b,o,hA,hb,hc⟩:=Rd.at h (by intro e;have:=ens_len l;rw[e]at this;simp at this;omega);refine⟨b,o,hA,hb,fun j hj=>?_⟩
 have g: ∀k,k<11→ ∀v,(enV (gE l j))[k]? =some v→w.cell? ⟨b,o+j*11+k,none⟩=some v:=by
  intro k hk v hv;rw[Nat.add_assoc];exact hc _ _ ((ens_get l j k hj hk).trans hv)
 exact⟨g 0 (by decide) _ rfl,g 1 (by decide) _ rfl,g 2 (by decide) _ rfl,g 3 (by decide) _ rfl,g 4 (by decide) _ rfl,g 5 (by decide) _ rfl,g 6 (by decide) _ rfl,g 7 (by decide) _ rfl,g 8 (by decide) _ rfl,g 9 (by decide) _ rfl,g 10 (by decide) _ rfl⟩
structure Ro where
 ns:List Int
 sec:Int
 cnt:Int
def ro0:Ro:=⟨[],0,0⟩
def gR(l:List Ro)(i:Nat):Ro:=l.getD i ro0
structure Rc where
 A:Option Addr
 c:Nat
 r:Ro
def rc0:Rc:=⟨none,0,ro0⟩
def gC(l:List Rc)(i:Nat):Rc:=l.getD i rc0
def rcV(x:Rc):List Value:=[.slice x.A x.r.ns.length x.c,.int .i64 x.r.sec,.int .i64 x.r.cnt]
def rcs(l:List Rc):List Value:=l.flatMap rcV
theorem rcs_len(l:List Rc):(rcs l).length=l.length*3:=by
 induction l with
 |nil=>rfl
 |cons p l ih=>simp[rcs,rcV]at ih ⊢;omega
theorem rcs_one(l:List Rc): ∀u∈rcs l,u.oneCell'=true:=by
 intro u hu;simp only[rcs,List.mem_flatMap]at hu;obtain⟨e,_,he⟩:=hu;simp only[rcV,List.mem_cons,List.not_mem_nil,or_false]at he;rcases he with rfl|rfl|rfl<;>rfl
theorem rcs_get(l:List Rc)(i j:Nat)(hi:i<l.length)(hj:j<3):(rcs l)[i*3+j]? =(rcV (gC l i))[j]? :=by
 induction l generalizing i with
 |nil=>simp at hi
 |cons m l ih=>
  cases i with
  |zero=>
   show(rcV m++rcs l)[0*3+j]? =(rcV m)[j]?;rw[List.getElem?_append_left (by simp[rcV];omega)];simp
  |succ i=>
   have h:=ih i (by simpa using hi);show(rcV m++rcs l)[(i+1)*3+j]? =(rcV (gC l i))[j]?;rw[List.getElem?_append_right (by simp[rcV];omega),←h]
   congr 1
   simp[rcV];omega
theorem rcs_set(l:List Rc)(i:Nat)(x:Rc)(hi:i<l.length):rcs (l.set i x)=(((rcs l).set (i*3) (.slice x.A x.r.ns.length x.c)).set (i*3+1) (.int .i64 x.r.sec)).set (i*3+2) (.int .i64 x.r.cnt):=by
 induction l generalizing i with
 |nil=>simp at hi
 |cons m l ih=>
  cases i with
  |zero=>simp[rcs,rcV]
  |succ i=>
   have h:=ih i (by simpa using hi);have e: ∀l',rcs (m :: l')=rcV m++rcs l':=fun _=>rfl
   have e1:(i+1)*3=i*3+1+1+1:=by omega
   simp only[List.set_cons_succ];rw[e,e,h,e1];simp[rcV]
theorem rcs_setA(l:List Rc)(i:Nat)(hi:i<l.length)(A:Option Addr)(c:Nat)(ns:List Int):rcs (l.set i ⟨A,c,⟨ns,(gC l i).r.sec,(gC l i).r.cnt⟩⟩)=(rcs l).set (i*3) (.slice A ns.length c):=by
 induction l generalizing i with
 |nil=>simp at hi
 |cons m l ih=>
  cases i with
  |zero=>simp[rcs,rcV,gC]
  |succ i=>
   have h:=ih i (by simpa using hi);have e: ∀l',rcs (m :: l')=rcV m++rcs l':=fun _=>rfl
   have e1:(i+1)*3=i*3+1+1+1:=by omega
   have e2:gC (m :: l) (i+1)=gC l i:=by simp[gC]
   simp only[List.set_cons_succ];rw[e,e,e1,e2,h];simp[rcV]
theorem Rcs.at{w:World}{B:Nat}{A:Option Addr}{l:List Rc}(h:Rd w B A (rcs l))(hi:0<l.length):
  ∃b o,A=some ⟨b,o,none⟩∧b<B∧ ∀j,j<l.length→w.cell? ⟨b,o+j*3,none⟩=some (.slice (gC l j).A (gC l j).r.ns.length (gC l j).c)∧w.cell? ⟨b,o+j*3+1,none⟩=some (.int .i64 (gC l j).r.sec)∧w.cell? ⟨b,o+j*3+2,none⟩=some (.int .i64 (gC l j).r.cnt):=by
 obtain⟨b,o,hA,hb,hc⟩:=Rd.at h (by intro e;have:=rcs_len l;rw[e]at this;simp at this;omega);refine⟨b,o,hA,hb,fun j hj=>?_⟩
 have g: ∀k,k<3→ ∀v,(rcV (gC l j))[k]? =some v→w.cell? ⟨b,o+j*3+k,none⟩=some v:=by
  intro k hk v hv;rw[Nat.add_assoc];exact hc _ _ ((rcs_get l j k hj hk).trans hv)
 exact⟨g 0 (by decide) _ rfl,g 1 (by decide) _ rfl,g 2 (by decide) _ rfl⟩
structure Bk where
 sh:Int
 ca:Int
 rows:List Ro
 op:List En
structure Bm(w:World)(A C:Option Addr)(rl:List Rc)(b:Bk):Prop where
 r:Rd w w.heap.size A (rcs rl)
 e:rl.map Rc.r=b.rows
 n: ∀i,i<rl.length→Ris w w.heap.size (gC rl i).A (gC rl i).r.ns
 o:Rd w w.heap.size C (ens b.op)
theorem Bm.below{w w':World}{A C:Option Addr}{rl:List Rc}{b:Bk}(h:Bm w A C rl b)(hb:Below w.heap.size w w'):Bm w' A C rl b:=
 ⟨Rd.below' h.r hb hb.size,h.e,fun i hi=>Rd.below' (h.n i hi) hb hb.size,Rd.below' h.o hb hb.size⟩
theorem Bm.len{w:World}{A C:Option Addr}{rl:List Rc}{b:Bk}(h:Bm w A C rl b):rl.length=b.rows.length:=by rw[←h.e];simp
theorem gC_row{rl:List Rc}{rows:List Ro}(e:rl.map Rc.r=rows){i:Nat}(hi:i<rl.length):(gC rl i).r=gR rows i:=by
 subst e;simp[gC,gR,hi]
def bkA(A C:Option Addr)(c d:Nat)(b:Bk):Value:= .agg #[.int .i64 b.sh,.int .i64 b.ca,.slice A b.rows.length c,.slice C b.op.length d]
end Bkp
namespace Bks
open Tre Ref3 Law3 Bkp
def inQ(n:Nat)(k:Int):Bool:=decide (0≤k∧k<n)
variable {id k:Int} {l:List En} {n:Nat}
theorem inQ_t(h:0≤k)(h':k<n):inQ n k=true:=by unfold inQ;simp[h,h']
theorem inQ_f(h:k<0∨n≤k):inQ n k=false:=by unfold inQ;simp;omega
theorem inQ_of(h:inQ n k=true):0≤k∧k<n:=by unfold inQ at h;simpa using h
def posE:List En→Int→Nat
 |[],_=>0
 |e :: l,id=>if e.id=id then 0 else posE l id+1
theorem posE_at(l:List En)(id:Int)(i:Nat)(h: ∀j,j<i→(gE l j).id≠id)(hi:i<l.length)(he:(gE l i).id=id):posE l id=i:=by
 induction l generalizing i with
 |nil=>simp at hi
 |cons e l ih=>
  unfold posE;cases i with
  |zero=>rw[if_pos (by simpa[gE] using he)]
  |succ i=>
   rw[if_neg (by have:=h 0 (by omega);simpa[gE] using this)];rw[ih i (fun j hj=>by have:=h (j+1) (by omega);simpa[gE] using this) (by simpa using hi) (by simpa[gE] using he)]
theorem posE_none(l:List En)(id:Int)(h: ∀j,j<l.length→(gE l j).id≠id):posE l id=l.length:=by
 induction l with
 |nil=>rfl
 |cons e l ih=>
  unfold posE;rw[if_neg (by have:=h 0 (by simp);simpa[gE] using this)];rw[ih (fun j hj=>by have:=h (j+1) (by simpa using hj);simpa[gE] using this)];simp
def placeF(l:List En)(id:Int):Int:=if posE l id<l.length then (posE l id:Int) else-1
theorem placeF_t(h:posE l id<l.length):placeF l id=posE l id:=by unfold placeF;rw[if_pos h]
theorem placeF_f(h: ¬posE l id<l.length):placeF l id= -1:=by unfold placeF;rw[if_neg h]
def lookF(ra ta:Int)(b:Bk)(o:Od):Int:=
 if inQ b.rows.length o.a=true then
  (if (gR b.rows o.a.toNat).ns.contains o.n=true then 9
   else if o.t<(gR b.rows o.a.toNat).sec then 10
   else if o.t=(gR b.rows o.a.toNat).sec∧ra≤(gR b.rows o.a.toNat).cnt then 10
   else if ta≤b.op.length then 11 else 0)
 else 3
def usedF(r:Ro)(n t wi:Int):Ro:=
 ⟨(r.ns++[n]).drop (r.ns.length+1-(max wi 0).toNat),t,(if r.sec=t then r.cnt else 0)+1⟩
def addF(sk wi:Int)(b:Bk)(o:Od)(ep:Int):Bk:=
 ⟨b.sh,b.ca+1,b.rows.set o.a.toNat (usedF (gR b.rows o.a.toNat) o.n o.t wi),b.op++[⟨b.sh+sk*b.ca,o,o.q,1,ep⟩]⟩
def delE(l:List En)(i:Nat):List En:=l.take i++l.drop (i+1)
def setL(e:En)(x:Int):En:=⟨e.id,e.o,x,e.st,e.ep⟩
def setS(e:En)(x:Int):En:=⟨e.id,e.o,e.lf,x,e.ep⟩
def fillF(b:Bk)(id q:Int):Bk×Int:=
 if q<1 then (b,1)
 else if posE b.op id<b.op.length then
  (if (gE b.op (posE b.op id)).lf<q then (b,17)
   else if (gE b.op (posE b.op id)).lf-q=0 then (⟨b.sh,b.ca,b.rows,delE b.op (posE b.op id)⟩,0)
   else (⟨b.sh,b.ca,b.rows,b.op.set (posE b.op id) (setL (gE b.op (posE b.op id)) ((gE b.op (posE b.op id)).lf-q))⟩,0))
 else (b,15)
def ackF(b:Bk)(id:Int):Bk×Int:=
 if posE b.op id<b.op.length then
  (if (gE b.op (posE b.op id)).st=1 then (b,16) else (⟨b.sh,b.ca,b.rows,delE b.op (posE b.op id)⟩,0))
 else (b,15)
def cancelF(b:Bk)(id:Int):Bk×Int:=
 if posE b.op id<b.op.length then
  (if (gE b.op (posE b.op id)).st=2 then (b,16) else (⟨b.sh,b.ca,b.rows,b.op.set (posE b.op id) (setS (gE b.op (posE b.op id)) 2)⟩,0))
 else (b,15)
structure FewB(b:Bk):Prop where
 rl:b.rows.length≤1000
 ol:b.op.length≤1000
 nl: ∀i,i<b.rows.length→(gR b.rows i).ns.length≤1000
 sh:0≤b.sh∧b.sh≤1000
 ca:0≤b.ca∧b.ca≤1000000000
 cnt: ∀i,i<b.rows.length→0≤(gR b.rows i).cnt∧(gR b.rows i).cnt≤1000000000
 sec: ∀i,i<b.rows.length→inI (gR b.rows i).sec
end Bks
namespace Dlk
variable {P:Program}
variable {xs:List Value} {base cap g n size:Nat} {e:TypeId} {w w':World}
theorem zeroCells_len(z:Array Value)(n:Nat):(Builtin.zeroCells z n).toList.length=n*z.size:=by simp[Builtin.zeroCells]
theorem zeroCells_one(z:Array Value)(n:Nat)(h: ∀u∈z,u.oneCell'=true)(h0:0<z.size): ∀u∈(Builtin.zeroCells z n).toList,u.oneCell'=true:=by
 intro u hu;simp only[Builtin.zeroCells,Array.toList_map,List.mem_map]at hu;obtain⟨i,_,rfl⟩:=hu;have hm:i%z.size<z.size:=Nat.mod_lt _ h0;rw[getElem!_pos z (i%z.size) hm];exact h _ (Array.getElem_mem hm)
theorem run_clear_any(w:World)(t e ty:TypeId)(z:Value)(ht:P.underlying t=some (.slice e))(hv: ∀w,(zeroValue e).run P w= .ok z w)(size:Nat)(hs:z.cells.size=size)(h0:0<size)(h1: ∀u∈z.cells,u.oneCell'=true)(b o n c:Nat)(hn:0<n)
  (hc: ∀j,j<n*size→(w.cell? ⟨b,o+j,none⟩).isSome=true)(hf: ∀j,j<n*size→w.frozen? ⟨b,o+j,none⟩=false):
  (Builtin.clear_ #[t] ty #[.slice (some ⟨b,o,none⟩) n c]).run P w= .ok (.tuple #[]) (w.setCells b o (Builtin.zeroCells z.cells n).toList):=by
 have hl:=zeroCells_len z.cells n;rw[hs]at hl;have hst:=run_storeCells_cells (P:=P) b o (Builtin.zeroCells z.cells n).toList 0 w (by rw[hl];simpa using hc) (by rw[hl];simpa using hf) (zeroCells_one _ _ h1 (by omega));simp only[Nat.add_zero]at hst;obtain⟨m,rfl⟩: ∃m,n=m+1:=⟨n-1,by omega⟩;simp[Builtin.clear_,run_underlying ht,hv,hst]
theorem own_room(h:w.ownsRow base e size (.slice (some ⟨g,0,none⟩) n cap) n xs):
  base≤g∧g<w.heap.size∧n≤cap∧cap≤maxLen∧(∀j,j<cap*size→(w.cell? ⟨g,j,none⟩).isSome=true∧w.frozen? ⟨g,j,none⟩=false)∧(∀j u,xs[j]? =some u→w.cell? ⟨g,j,none⟩=some u):=by
 rcases h.2 with⟨h',_⟩|⟨g',cap',cur,h',hb,hg,hnc,hcm,hcs,htake⟩
 ·simp at h'
 ·simp only[Value.slice.injEq,Option.some.injEq,Addr.mk.injEq,and_true,true_and]at h';obtain⟨rfl,rfl⟩:=h';refine⟨hb,(Array.getElem?_eq_some_iff.1 hg).1,hnc,hcm,fun j hj=>?_,fun j u hu=>?_⟩
  ·rw[cell_of_row w g j cur e (0,0) hg];exact⟨by rw[Array.getElem?_eq_getElem (by omega)];rfl,frozen_of_row w g j cur e hg⟩
  ·rw[cell_of_row w g j cur e (0,0) hg];rw[←htake]at hu;rw[List.getElem?_take]at hu;split at hu
   ·simpa using hu
   ·simp at hu
theorem grown_setCells(h:w.grownBy w' (some g)): ∀(vs:List Value) (o:Nat),w.grownBy (w'.setCells g o vs) (some g):=by
 intro vs
 induction vs generalizing w' with
 |nil=>intro o;exact h
 |cons v r ih=>
  intro o;refine ih (w':=w'.setCell (α g o) v) ⟨h.os,h.tape,h.output,by simpa[World.setCell] using h.size,fun k hk hne=>?_⟩ (o+1);exact(heap_setCell_other w' (α g o) k v (fun e=>hne (by simp[e]))).trans (h.block k hk hne)
theorem grown_refl(w:World)(r:Option Nat):w.grownBy w r:=⟨rfl,rfl,rfl,τ,fun _ _ _=>rfl⟩
theorem grown_drew{r:Option Nat}(h:w.grownBy w' r):w.grownBy w'.drew r:=⟨h.os,h.tape,h.output,h.size,h.block⟩
theorem del_reads{i j:Nat}(h:w.ownsRow base e size (.slice (some ⟨g,0,none⟩) n cap) n xs)(hij:i≤j)(hj:j≤n)(zs:List Value):
  Rd ((w.drew.setCells g (i*size) (xs.drop (j*size))).setCells g ((i+(n-j))*size) zs) ((w.drew.setCells g (i*size) (xs.drop (j*size))).setCells g ((i+(n-j))*size) zs).heap.size (some ⟨g,0,none⟩) (xs.take (i*size)++xs.drop (j*size)):=by
 obtain⟨hb,hlt,hnc,hcm,hroom,hcell⟩:=own_room h;have hlen:xs.length=n*size:=h.1;have l1:(xs.drop (j*size)).length=(n-j)*size:=by rw[List.length_drop,hlen,Nat.sub_mul]
 have hle:j*size≤n*size:=Nat.mul_le_mul_right _ hj;have hie:i*size≤j*size:=Nat.mul_le_mul_right _ hij;have hcap:n*size≤cap*size:=Nat.mul_le_mul_right _ hnc;have e1:(i+(n-j))*size=i*size+(n-j)*size:=Nat.add_mul _ _ _;have e2:(n-j)*size=n*size-j*size:=Nat.sub_mul _ _ _;have gr:w.grownBy ((w.drew.setCells g (i*size) (xs.drop (j*size))).setCells g ((i+(n-j))*size) zs) (some g):=grown_setCells (grown_setCells (grown_drew (grown_refl w _)) _ _) _ _;refine .inr ⟨g,0,rfl,by have:=gr.size;omega,fun t v hv=>?_⟩
 have ht:t<i*size+(n-j)*size:=by
  have:=(List.getElem?_eq_some_iff.1 hv).1;rw[List.length_append,l1,List.length_take]at this;omega
 rw[Nat.zero_add,World.cell?_setCells_out g zs _ _ ⟨g,t,none⟩ (fun _ _=>Or.inl (by simp only[];omega))];by_cases h1:t<i*size
 ·rw[World.cell?_setCells_out g _ _ _ ⟨g,t,none⟩ (fun _ _=>Or.inl h1)];rw[List.getElem?_append_left (by rw[List.length_take];omega),List.getElem?_take,if_pos h1]at hv;exact hcell t v hv
 ·obtain⟨k,rfl⟩: ∃k,t=i*size+k:=⟨t-i*size,by omega⟩;have hk:k<(xs.drop (j*size)).length:=by omega
  have:=World.cell?_setCells_in g (xs.drop (j*size)) (i*size) w.drew (fun q hq=>by rw[l1]at hq;exact(hroom (i*size+q) (by omega)).1) k hk;rw[this];rw[List.getElem?_append_right (by rw[List.length_take];omega),List.length_take,show i*size+k-min (i*size) xs.length=k by omega]at hv;rw[List.getElem?_eq_getElem hk]at hv;exact hv
end Dlk
namespace Bkq
open Tre Ref3 Law3 Bkp Bks
def EOk(e:En):Prop:=inI e.lf∧inI e.o.p
def ROk(m:Nat)(r:Ro):Prop:=r.ns.length≤m∧0≤r.cnt∧r.cnt≤m∧inI r.sec
structure Fw(m:Nat)(b:Bk):Prop where
 rl:b.rows.length≤1000
 ol:b.op.length≤m
 sh:0≤b.sh∧b.sh≤1000
 ca:0≤b.ca∧b.ca≤m
 ro: ∀r∈b.rows,ROk m r
 en: ∀e∈b.op,EOk e
variable {b:Bk} {l:List En} {i m:Nat}
theorem gE_mem(h:i<l.length):gE l i∈l:=by
 simp only[gE,List.getD,List.getElem?_eq_getElem h,Option.getD_some];exact List.getElem_mem h
theorem gR_mem{l:List Ro}(h:i<l.length):gR l i∈l:=by
 simp only[gR,List.getD,List.getElem?_eq_getElem h,Option.getD_some];exact List.getElem_mem h
theorem Fw.few(h:Fw m b)(hm:m≤1000):FewB b:=by
 refine⟨h.rl,by have:=h.ol;omega,fun i hi=>?_,h.sh,?_,fun i hi=>?_,fun i hi=>(h.ro _ (gR_mem hi)).2.2.2⟩
 ·have:=(h.ro _ (gR_mem hi)).1;omega
 ·have:=h.ca;omega
 ·have:=(h.ro _ (gR_mem hi)).2;omega
theorem Fw.lf(h:Fw m b): ∀i,i<b.op.length→inI (gE b.op i).lf:=fun i hi=>(h.en _ (gE_mem hi)).1
theorem Fw.pl(h:Fw m b): ∀i,i<b.op.length→inI (gE b.op i).o.p∧inI (gE b.op i).lf:=fun i hi=>⟨(h.en _ (gE_mem hi)).2,(h.en _ (gE_mem hi)).1⟩
theorem Fw.mono{m':Nat}(h:Fw m b)(hm:m≤m'):Fw m' b:=by
 refine⟨h.rl,by have:=h.ol;omega,h.sh,by have:=h.ca;omega,fun r hr=>?_,h.en⟩;obtain⟨h1,h2,h3,h4⟩:=h.ro r hr;exact⟨by omega,h2,by omega,h4⟩
end Bkq
end Go.Proofs.YtaeddnjjeholgaaGreat
