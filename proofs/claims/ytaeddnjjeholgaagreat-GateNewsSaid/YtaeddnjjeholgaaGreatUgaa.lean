/- Texts side by side. -/
import Derived.Below
import Derived.Carry
import Derived.OwnWalk
import Derived.Laws.OwnMore
import Derived.Laws.MakeOwn
import Derived.Deep.Slices
import Derived.Deep.SlicePairs
import Derived.Deep.Draws
import Derived.ChangeSame
import Derived.ProofKit
import Derived.Lib.Hide
set_option linter.unusedVariables false
set_option linter.unusedSimpArgs false
set_option maxRecDepth 100000
set_option maxHeartbeats 16000000
namespace Go.Proofs.YtaeddnjjeholgaaGreat.Rel
end Go.Proofs.YtaeddnjjeholgaaGreat.Rel
namespace Go.Proofs.YtaeddnjjeholgaaGreat.Sm4
end Go.Proofs.YtaeddnjjeholgaaGreat.Sm4
namespace Go.Proofs.YtaeddnjjeholgaaGreat.Mdz
end Go.Proofs.YtaeddnjjeholgaaGreat.Mdz
namespace Go.Proofs.YtaeddnjjeholgaaGreat.Mdb
end Go.Proofs.YtaeddnjjeholgaaGreat.Mdb
namespace Go.Proofs.YtaeddnjjeholgaaGreat.To4
end Go.Proofs.YtaeddnjjeholgaaGreat.To4
namespace Go.Proofs.YtaeddnjjeholgaaGreat.Wtk
end Go.Proofs.YtaeddnjjeholgaaGreat.Wtk
namespace Go.Proofs.YtaeddnjjeholgaaGreat
open Go.ChangeShapes Go.WideShapes Go.RowKit
namespace Mem
variable {a:Act} {ops:Array Oper} {cs:Array Value} {Q:Exit→Act→World→Prop} {rest:List Oper} {news xs:List Value} {B Bx base c m n nm size:Nat} {A:Option Addr} {P:Program} {e te:TypeId} {v:Value} {w w' w0:World}
def Rd(w:World)(B:Nat)(A:Option Addr)(xs:List Value):Prop:=
 xs=[]∨ ∃b o,A=some ⟨b,o,none⟩∧b<B∧ ∀i v,xs[i]? =some v→w.cell? ⟨b,o+i,none⟩=some v
section
variable {w w':World} {B B':Nat} {A:Option Addr} {xs ys:List Value}
theorem Rd.nil:Rd w B A []:= .inl rfl
theorem Rd.at(h:Rd w B A xs)(hx:xs≠[]): ∃b o,A=some ⟨b,o,none⟩∧b<B∧ ∀i v,xs[i]? =some v→w.cell? ⟨b,o+i,none⟩=some v:=
 h.resolve_left hx
theorem Rd.keep(h:Rd w B A xs)(hk: ∀p:Addr,p.block<B→w'.cell? p=w.cell? p):Rd w' B A xs:=by
 rcases h with h|⟨b,o,hA,hb,hc⟩
 ·exact .inl h
 ·exact .inr ⟨b,o,hA,hb,fun i v hi=>(hk _ hb).trans (hc i v hi)⟩
theorem Rd.keep'(h:Rd w B A xs){g:Nat}(_hg:g<g+1)(hne: ∀a,A=some a→a.block≠g){j:Nat}(u:Value):Rd (w.setCell ⟨g,j,none⟩ u) (w.setCell ⟨g,j,none⟩ u).heap.size A xs:=by
 rcases h with h|⟨b,o,hA,hb,hc⟩
 ·exact .inl h
 ·have hb':=hne _ hA;by_cases hx:xs=[]
  ·exact .inl hx
  ·have h0:0<xs.length:=by cases xs with|nil=>exact absurd rfl hx|cons a l=>simp
   have hl:=World.block_lt_of_cell? w _ (hc 0 _ (List.getElem?_eq_getElem h0));refine .inr ⟨b,o,hA,by simpa[World.setCell] using hl,fun i v hi=>?_⟩;have e:(w.setCell ⟨g,j,none⟩ u).heap[b]? =w.heap[b]? :=Below.heap_setCell w _ u b hb';exact(World.cell?_of_block (w:=w) (a:=⟨b,o+i,none⟩) e).trans (hc i v hi)
theorem Rd.more(h:Rd w B A xs)(hB:B≤B'):Rd w B' A xs:=by
 rcases h with h|⟨b,o,hA,hb,hc⟩
 ·exact .inl h
 ·exact .inr ⟨b,o,hA,by omega,hc⟩
theorem Rd.below(h:Rd w B A xs)(hb:Below B w w'):Rd w' B A xs:=h.keep fun _ hp=>hb.cell hp
theorem Rd.below'(h:Rd w B A xs)(hb:Below B w w')(hB:B≤B'):Rd w' B' A xs:=(h.below hb).more hB
theorem Rd.of_own(h:w.ownsRow base e size (.slice A n c) n xs):Rd w w.heap.size A xs:=by
 rcases h.2 with⟨hv,hn⟩|⟨g,cap,cur,hv,hg,hh,h1,h2,h3,h4⟩
 ·have:=h.1;rw[hn,Nat.zero_mul]at this;exact .inl (List.eq_nil_of_length_eq_zero this)
 ·injection hv with hA
  subst hA;refine .inr ⟨g,0,rfl,(Array.getElem?_eq_some_iff.1 hh).1,fun i v hi=>?_⟩;have:=World.ownsRow.cells h (g:=g) rfl i v hi;rwa[show(⟨g,0,none⟩:Addr).add i=⟨g,0+i,none⟩ by unfold Addr.add;split<;>simp_all]at this
theorem own_form(h:w.ownsRow base e size v n xs): ∃A c,v= .slice A n c∧Rd w w.heap.size A xs:=by
 have hv: ∃A c,v= .slice A n c:=by
  rcases h.2 with⟨rfl,rfl⟩|⟨g,cap,cur,rfl,_⟩
  ·exact⟨_,_,rfl⟩
  ·exact⟨_,_,rfl⟩
 obtain⟨A,c,rfl⟩:=hv;exact⟨A,c,rfl,Rd.of_own h⟩
theorem Below.drewN'{a b:World}(h:Below B a b)(n:Nat):Below B a (b.drewN n):=⟨h.os,h.tape,h.output,h.size,h.block⟩
theorem Rd.drewN(h:Rd w B A xs)(n:Nat):Rd (w.drewN n) B A xs:=h
theorem Rd.drew(h:Rd w B A xs):Rd w.drew B A xs:=h
theorem Rd.alloc(h:Rd w B A xs)(hB:B≤w.heap.size)(o:Obj):Rd (w.alloc o) B A xs:=h.below ((Below.refl _ _).alloc hB o)
end
def ints(xs:List Int):List Value:=xs.map (.int .i64)
def gI(xs:List Int)(i:Nat):Int:=xs.getD i 0
def Ris(w:World)(B:Nat)(A:Option Addr)(xs:List Int):Prop:=Rd w B A (ints xs)
theorem ints_len(xs:List Int):(ints xs).length=xs.length:=by simp[ints]
theorem ints_snoc(xs:List Int)(x:Int):ints (xs++[x])=ints xs++[.int .i64 x]:=by simp[ints]
theorem Ris.at{xs:List Int}{i:Nat}(h:Ris w B A xs)(hi:i<xs.length):
  ∃b o,A=some ⟨b,o,none⟩∧b<B∧ ∀j,j<xs.length→w.cell? ⟨b,o+j,none⟩=some (.int .i64 (gI xs j)):=by
 obtain⟨b,o,hA,hb,hc⟩:=Rd.at h (by intro e;have:=ints_len xs;rw[e]at this;simp at this;omega);refine⟨b,o,hA,hb,fun j hj=>hc j _ ?_⟩;simp[ints,gI,hj]
def nP(l:List (Int×Int))(i:Nat):Int:=(l.getD i (0,0)).1
def nC(l:List (Int×Int))(i:Nat):Int:=(l.getD i (0,0)).2
def ndV(p:Int×Int):List Value:=[.int .i64 p.1,.int .i64 p.2]
def nds(l:List (Int×Int)):List Value:=l.flatMap ndV
def Nds(w:World)(B:Nat)(A:Option Addr)(l:List (Int×Int)):Prop:=Rd w B A (nds l)
theorem nds_len(l:List (Int×Int)):(nds l).length=l.length*2:=by
 induction l with
 |nil=>rfl
 |cons p l ih=>simp[nds,ndV]at ih ⊢;omega
theorem nds_snoc(l:List (Int×Int))(p:Int×Int):nds (l++[p])=nds l++[.int .i64 p.1,.int .i64 p.2]:=by simp[nds,ndV]
theorem nds_get(l:List (Int×Int))(i:Nat)(hi:i<l.length):(nds l)[i*2]? =some (.int .i64 (nP l i))∧(nds l)[i*2+1]? =some (.int .i64 (nC l i)):=by
 induction l generalizing i with
 |nil=>simp at hi
 |cons p l ih=>
  cases i with
  |zero=>simp[nds,ndV,nP,nC]
  |succ i=>
   have:=ih i (by simpa using hi);have e1:(i+1)*2=i*2+1+1:=by omega
   rw[e1];simpa[nds,ndV,nP,nC] using this
theorem Nds.at{l:List (Int×Int)}(h:Nds w B A l)(hi:0<l.length):
  ∃b o,A=some ⟨b,o,none⟩∧b<B∧ ∀j,j<l.length→w.cell? ⟨b,o+j*2,none⟩=some (.int .i64 (nP l j))∧w.cell? ⟨b,o+j*2+1,none⟩=some (.int .i64 (nC l j)):=by
 obtain⟨b,o,hA,hb,hc⟩:=Rd.at h (by intro e;have:=nds_len l;rw[e]at this;simp at this;omega);refine⟨b,o,hA,hb,fun j hj=>?_⟩;have:=nds_get l j hj;exact⟨hc _ _ this.1,by have:=hc _ _ this.2;rwa[Nat.add_assoc]⟩
def inI(x:Int):Prop:= -9223372036854775808≤x∧x≤9223372036854775807
def WfN(l:List (Int×Int)):Prop:= ∀i,i<l.length→inI (nP l i)∧inI (nC l i)
def WfI(xs:List Int):Prop:= ∀i,i<xs.length→inI (gI xs i)
theorem wf_in{a:Int}(h:(Lit.int .i64 a).wf=true):inI a:=by
 simp[Lit.wf]at h;exact⟨h.1,h.2⟩
theorem one_cells(hn:cs.toList=news):
  ∀j u,news[j]? =some u→(w.alloc (.cells cs te)).cell? ((⟨w.heap.size,0,none⟩:Addr).add j)=some u:=by
 intro j u hj;subst hn;have e:(⟨w.heap.size,0,none⟩:Addr).add j=⟨w.heap.size,j,none⟩:=by unfold Addr.add;split<;>simp_all
 rw[e,cell_of_row (w.alloc (.cells cs te)) w.heap.size j cs te (0,0) (heap_alloc_new w _)];simpa using hj
theorem wpList_app1{o:Oper}(hown:Hid (w.ownsRow base e size v n xs))(hbel:Below B w0 w)(hgd:o.guard=none)(s x:Operand)(t:TypeId)
  (ho:o.op= .call {callee:= .builtin .append,args:= #[s,x],argTypes:= #[t,t]})
  (i:TypeInfo)(z:Value)(bytes:Nat)(ht:P.underlying t=some (.slice e))(hi:P.info? e=some i)(hz:i.zero=some z)
  (hsize:i.size=size)(hby:i.bytes=bytes)(hzs:z.cells.size=size)(hsz:0<size)
  (hs:a.eval s=v){gb:Nat}(hx:a.eval x= .slice (some ⟨gb,0,none⟩) 1 1)(hgb:gb=w.heap.size)(news:List Value)(hn:cs.toList=news)(hl:news.length=size)(h1: ∀u∈news,u.oneCell'=true)
  (h63:n+1≤maxLen)(hbytes:(n+1)*bytes≤140737488355328)(hB:B≤base)(hbase:base≤w.heap.size)(hB':B≤w.heap.size)
  (h: ∀A' c' w',Hid (w'.ownsRow base e size (.slice A' (n+1) c') (n+1) (xs++news))→Below B w0 w'→w.heap.size≤w'.heap.size→wpList P ops Q rest (a.put o.dst (.slice A' (n+1) c')) w'):
  wpList P ops Q (o :: rest) a (w.alloc (.cells cs te)):=by
 subst hgb;refine wpList_append_own _ hgd s x t ho base e i z size bytes ht hi hz hsize hby hzs hsz v n xs hs (World.ownsRow.alloc hown.out _) ⟨w.heap.size,0,none⟩ 1 1 news hx (by omega) (one_cells hn) h1 h63 hbytes (by simp;omega) ?_;intro v' w' hown' hg _;obtain⟨A',c',rfl,_⟩:=own_form hown';refine h A' c' w' hown' ((hbel.alloc hB' _).grown hg (by simp;omega) ?_) ?_
 ·intro k hk;have:=World.ownsRow.lt hown.out k hk;omega
 ·have:=hg.size;simp at this;omega
theorem own_drew(h:Hid (w.ownsRow base e size v n xs)):Hid (w.drew.ownsRow base e size v n xs):=h
theorem below_drew(h:Below B w w'):Below B w w'.drew:=h.drew
theorem step_app1{o:Oper}{K:Act→World→Prop}{E:Prop}(hown:Hid (w.ownsRow base e size v n xs))(hbel:Below B w0 w)(hgd:o.guard=none)(s x:Operand)(t:TypeId)
  (ho:o.op= .call {callee:= .builtin .append,args:= #[s,x],argTypes:= #[t,t]})
  (i:TypeInfo)(z:Value)(bytes:Nat)(ht:P.underlying t=some (.slice e))(hi:P.info? e=some i)(hz:i.zero=some z)
  (hsize:i.size=size)(hby:i.bytes=bytes)(hzs:z.cells.size=size)(hsz:0<size)
  (hs:a.eval s=v){gb:Nat}(hx:a.eval x= .slice (some ⟨gb,0,none⟩) 1 1)(hgb:gb=w.heap.size)(news:List Value)(hn:cs.toList=news)(hl:news.length=size)(h1: ∀u∈news,u.oneCell'=true)
  (h63:n+1≤maxLen)(hbytes:(n+1)*bytes≤140737488355328)(hB:B≤base)(hbase:base≤w.heap.size)(hB':B≤w.heap.size)
  (h: ∀A' c' w',Hid (w'.ownsRow base e size (.slice A' (n+1) c') (n+1) (xs++news))→Below B w0 w'→w.heap.size≤w'.heap.size→K (a.put o.dst (.slice A' (n+1) c')) w'):
  if Region.wanted o (yielded ops a.tmps)=true then Oper.wp P o a (w.alloc (.cells cs te)) K Q else E:=by
 subst hgb;have hw:Region.wanted o (yielded ops a.tmps)=true:=by simp[Region.wanted,hgd]
 rw[if_pos hw];refine wp_append_own _ s x t ho base e i z size bytes ht hi hz hsize hby hzs hsz v n xs hs (World.ownsRow.alloc hown.out _) ⟨w.heap.size,0,none⟩ 1 1 news hx (by omega) (one_cells hn) h1 h63 hbytes (by simp;omega) ?_;intro v' w' hown' hg _;obtain⟨A',c',rfl,_⟩:=own_form hown';refine h A' c' w' hown' ((hbel.alloc hB' _).grown hg (by simp;omega) ?_) ?_
 ·intro k hk;have:=World.ownsRow.lt hown.out k hk;omega
 ·have:=hg.size;simp at this;omega
theorem rd_new(h:cs.toList=xs):Rd (w.alloc (.cells cs te)) (w.alloc (.cells cs te)).heap.size (some ⟨w.heap.size,0,none⟩) xs:=by
 refine .inr ⟨w.heap.size,0,rfl,by simp,fun i v hv=>?_⟩;have:=one_cells (w:=w) (te:=te) h i v hv;rwa[show(⟨w.heap.size,0,none⟩:Addr).add i=⟨w.heap.size,0+i,none⟩ by unfold Addr.add;split<;>simp_all]at this
theorem own_below(h:Hid (w.ownsRow base e size v n xs))(hb:Below w.heap.size w w'):Hid (w'.ownsRow base e size v n xs):=
 World.ownsRow.kept (row:=none) h.out ⟨hb.os,hb.tape,hb.output,hb.size,fun k hk _=>hb.block k hk⟩ (by cases v.ownBlock<;>simp)
def Blk(w:World)(g:Nat)(te:TypeId)(cs:Array Value):Prop:=w.heap[g]? =some (.cells cs te (0,0))
section
variable {w w':World} {g:Nat} {te:TypeId} {cs:Array Value} {B:Nat}
theorem Blk.fresh(w:World)(te:TypeId)(cs:Array Value):Blk (w.alloc (.cells cs te)) w.heap.size te cs:=heap_alloc_new w _
theorem Blk.lt(h:Blk w g te cs):g<w.heap.size:=(Array.getElem?_eq_some_iff.1 h).1
theorem Blk.alloc(h:Blk w g te cs)(o:Obj):Blk (w.alloc o) g te cs:=(Below.heap_alloc w o g h.lt).trans h
theorem Blk.below(h:Blk w g te cs)(hb:Below B w w')(hg:g<B):Blk w' g te cs:=(hb.block g hg).trans h
theorem Blk.below'(h:Blk w g te cs)(hb:Below w.heap.size w w'):Blk w' g te cs:=h.below hb h.lt
theorem Blk.drewN(h:Blk w g te cs)(n:Nat):Blk (w.drewN n) g te cs:=h
theorem Blk.cell(h:Blk w g te cs)(i:Nat):w.cell? ⟨g,i,none⟩=cs[i]? :=cell_of_row w g i cs te (0,0) h
theorem Blk.thaw(h:Blk w g te cs)(i:Nat):w.frozen? ⟨g,i,none⟩=false:=by
 unfold Blk at h;simp[World.frozen?,h]
theorem Blk.rd(h:Blk w g te cs)(hx:cs.toList=xs)(hg:g<B):Rd w B (some ⟨g,0,none⟩) xs:=by
 refine .inr ⟨g,0,rfl,hg,fun i v hi=>?_⟩;subst hx;rw[h.cell,Nat.zero_add];simpa using hi
theorem Blk.rd'(h:Blk w g te cs)(hx:cs.toList=xs):Rd w w.heap.size (some ⟨g,0,none⟩) xs:=h.rd hx h.lt
end
theorem run_appNil(w:World)(base:Nat)(t ty e:TypeId)(i:TypeInfo)(size:Nat)(ht:P.underlying t=some (.slice e))(hi:P.info? e=some i)
  (v:Value)(n:Nat)(xs:List Value)(hown:w.ownsRow base e size v n xs)(c:Nat):(Builtin.append_ #[t,t] ty #[v,.slice none 0 c]).run P w= .ok v w:=by
 rcases hown.2 with⟨h1,h2⟩|⟨g,cap,cur,h1,h2,h3,h4,h5⟩
 ·subst h1;subst h2;simp[Builtin.append_,run_underlying ht,sizeOf,typeInfo,hi,Builtin.lenOf,Builtin.firstCells]
 ·subst h1;simp[Builtin.append_,run_underlying ht,sizeOf,typeInfo,hi,Builtin.lenOf,Builtin.firstCells,h4,storeCells]
theorem run_appR(hown:w.ownsRow base e size v n xs)(hbel:Below B w0 w)(hr:Rd w Bx A news)(hnm:nm=n+m)(t ty:TypeId)
  (i:TypeInfo)(z:Value)(bytes:Nat)(ht:P.underlying t=some (.slice e))(hi:P.info? e=some i)(hz:i.zero=some z)
  (hsize:i.size=size)(hby:i.bytes=bytes)(hzs:z.cells.size=size)(hsz:0<size)
  (hl:news.length=m*size)(h1: ∀u∈news,u.oneCell'=true)
  (h63:n+m≤maxLen)(hbytes:(n+m)*bytes≤140737488355328)(hB:B≤base)(hbase:base≤w.heap.size)(hB':B≤w.heap.size):
  ∃A' c' w',(Builtin.append_ #[t,t] ty #[v,.slice A m c]).run P w= .ok (.slice A' nm c') w'∧w'.ownsRow base e size (.slice A' nm c') nm (xs++news)∧Below B w0 w'∧w.heap.size≤w'.heap.size:=by
 subst hnm;cases A with
 |none=>
  have hn:news=[]:=by
   rcases hr with h|⟨b,o,h,_⟩
   ·exact h
   ·cases h
  subst hn
  have hm:m=0:=by
   rcases Nat.eq_zero_or_pos m with h|h
   ·exact h
   ·have:=Nat.mul_pos h hsz;simp at hl;omega
  subst hm;obtain⟨A',c',rfl,_⟩:=own_form hown;exact⟨A',c',w,run_appNil w base t ty e i size ht hi _ n xs hown c,by simpa using hown,hbel,Nat.le_refl _⟩
 |some ad=>
  have hnews: ∀j u,news[j]? =some u→w.cell? (ad.add j)=some u:=by
   intro j u hj;rcases hr with h|⟨b,o,h,_,hc⟩
   ·subst h;simp at hj
   ·injection h with h
    subst h;rw[show(⟨b,o,none⟩:Addr).add j=⟨b,o+j,none⟩ by unfold Addr.add;split<;>simp_all];exact hc j u hj
  obtain⟨v',w',hrun,hown',hg,_⟩:=run_append_own (P:=P) w base t ty e i z size bytes ht hi hz hsize hby hzs hsz v n xs hown ad m c news hl hnews h1 h63 hbytes hbase;obtain⟨A',c',rfl,_⟩:=own_form hown';refine⟨A',c',w',hrun,hown',hbel.grown hg hB' ?_,hg.size⟩;intro k hk;have:=World.ownsRow.lt hown k hk;omega
theorem wp_appR{o:Oper}{K:Act→World→Prop}(hown:Hid (w.ownsRow base e size v n xs))(hbel:Below B w0 w)(hr:Hid (Rd w Bx A news))(hnm:nm=n+m)(s x:Operand)(t:TypeId)
  (ho:o.op= .call {callee:= .builtin .append,args:= #[s,x],argTypes:= #[t,t]})
  (i:TypeInfo)(z:Value)(bytes:Nat)(ht:P.underlying t=some (.slice e))(hi:P.info? e=some i)(hz:i.zero=some z)
  (hsize:i.size=size)(hby:i.bytes=bytes)(hzs:z.cells.size=size)(hsz:0<size)
  (hs:a.eval s=v)(hx:a.eval x= .slice A m c)(hl:news.length=m*size)(h1: ∀u∈news,u.oneCell'=true)
  (h63:n+m≤maxLen)(hbytes:(n+m)*bytes≤140737488355328)(hB:B≤base)(hbase:base≤w.heap.size)(hB':B≤w.heap.size)
  (h: ∀A' c' w',Hid (w'.ownsRow base e size (.slice A' nm c') nm (xs++news))→Below B w0 w'→w.heap.size≤w'.heap.size→K (a.put o.dst (.slice A' nm c')) w'):o.wp P a w K Q:=by
 obtain⟨A',c',w',hrun,h2,h3,h4⟩:=run_appR (P:=P) hown.out hbel hr.out hnm t o.type i z bytes ht hi hz hsize hby hzs hsz hl h1 h63 hbytes hB hbase hB' (c:=c);unfold Oper.wp execOp;simp only[ho,resolve,invoke,builtin,Sem.run_bind,Sem.run_pure,Result.andThen_ok,List.map_toArray,List.map_cons,List.map_nil,hs,hx,hrun];exact h A' c' w' h2 h3 h4
theorem wpList_appR{o:Oper}(hown:Hid (w.ownsRow base e size v n xs))(hbel:Below B w0 w)(hr:Hid (Rd w Bx A news))(hnm:nm=n+m)(hgd:o.guard=none)(s x:Operand)(t:TypeId)
  (ho:o.op= .call {callee:= .builtin .append,args:= #[s,x],argTypes:= #[t,t]})
  (i:TypeInfo)(z:Value)(bytes:Nat)(ht:P.underlying t=some (.slice e))(hi:P.info? e=some i)(hz:i.zero=some z)
  (hsize:i.size=size)(hby:i.bytes=bytes)(hzs:z.cells.size=size)(hsz:0<size)
  (hs:a.eval s=v)(hx:a.eval x= .slice A m c)(hl:news.length=m*size)(h1: ∀u∈news,u.oneCell'=true)
  (h63:n+m≤maxLen)(hbytes:(n+m)*bytes≤140737488355328)(hB:B≤base)(hbase:base≤w.heap.size)(hB':B≤w.heap.size)
  (h: ∀A' c' w',Hid (w'.ownsRow base e size (.slice A' nm c') nm (xs++news))→Below B w0 w'→w.heap.size≤w'.heap.size→wpList P ops Q rest (a.put o.dst (.slice A' nm c')) w'):
  wpList P ops Q (o :: rest) a w:=
 wpList_plain hgd fun _ hK=>wp_appR hown hbel hr hnm s x t ho i z bytes ht hi hz hsize hby hzs hsz hs hx hl h1 h63 hbytes hB hbase hB' fun A' c' w' h2 h3 h4=>hK _ _ (h A' c' w' h2 h3 h4)
theorem ints_one(xs:List Int): ∀u∈ints xs,u.oneCell'=true:=by
 intro u hu;simp only[ints,List.mem_map]at hu;obtain⟨x,_,rfl⟩:=hu
 rfl
theorem nds_one(l:List (Int×Int)): ∀u∈nds l,u.oneCell'=true:=by
 intro u hu;simp only[nds,ndV,List.mem_flatMap]at hu;obtain⟨x,_,h⟩:=hu;simp at h;rcases h with rfl|rfl<;>rfl
theorem own_empty{g:Nat}(h:Blk w g te #[])(hb:base≤g):w.ownsRow base te size (.slice (some ⟨g,0,none⟩) 0 0) 0 []:=
 ⟨by simp,.inr ⟨g,0,#[],rfl,hb,h,Nat.le_refl _,by unfold maxLen;omega,by simp,by simp⟩⟩
section
variable {H:Type} {enc:TypeId×Value→H} {P:Program} {w:World}
theorem spot_none{b o:Nat}{s:Option Nat}(h:w.cell? ((⟨b,o,s⟩:Addr).add 0)=some v):s=none:=by
 cases s with
 |none=>rfl
 |some k=>
  exfalso;unfold World.cell? Addr.add at h;simp only[if_true]at h;split at h
  ·simp at h
  ·cases h
theorem add_lit'(b o n:Nat):(⟨b,o,none⟩:Addr).add n=⟨b,o+n,none⟩:=by
 unfold Addr.add;split
 ·subst_vars;rfl
 ·rfl
theorem blk_lt{a:Addr}(h:w.cell? a=some v):a.block<w.heap.size:=World.block_lt_of_cell? w a h
theorem trodAll_below(hl:laidOutB P=true){W W':World}(hb:Below W.heap.size W W'): ∀(ts:List TypeId) (vs:List Value) (ds:List (DataW H)) (ps:List MemPlace),
  (∀t∈ts,P.readableRec t=true∧t<P.types.size)→DataW.TrodAll enc P W 0 (fun _=>true) true ts vs ds ps→(∀x∈ps,x.block<W.heap.size)→
  DataW.TrodAll enc P W' 0 (fun b=>decide (b<W.heap.size)) true ts vs ds ps
 |[],[],[],ps,_,h,_=>h
 |t :: ts,v :: vs,d :: ds,ps,hr,h,hlt=>by
  obtain⟨p,q,h1,h2,rfl⟩:=h
  have ht:=hr t (by simp)
  exact⟨p,q,Below.trod hl ht.1 ht.2 h1 hb (fun x hx=>hlt x (List.mem_append_left _ hx)),
   trodAll_below hl hb ts vs ds q (fun t' ht'=>hr t' (by simp[ht'])) h2 (fun x hx=>hlt x (List.mem_append_right _ hx)),rfl⟩
 |[],_ :: _,_,_,_,h,_=>h.elim
 |[],[],_ :: _,_,_,h,_=>h.elim
 |_ :: _,[],_,_,_,h,_=>h.elim
 |_ :: _,_ :: _,[],_,_,h,_=>h.elim
theorem law_post{f:Func}{s:ChangeSpec}{W W':World}{args:Array Value}{ds gs:List (DataW H)}{before:List MemPlace}{tb:TypeId}(hW:DataW.Whole enc P f.params.toList s.vars false W args.toList ds gs before)(hv:s.vars=[])
  (hfn:(s.fn H ds).results=[.lit (.bool true)])(hfa:(s.fn H ds).args=ds)(hfv:(s.fn H ds).vars=[])
  (hrt:f.resultTypes= #[tb])(hu:P.underlying tb=some .bool)(hread: ∀t∈f.params.toList,P.readableRec t=true∧t<P.types.size)(hl:laidOutB P=true)
  (hb:Below W.heap.size W W'):s.post enc P f false true false false W args (.bool true) W':=by
 have hW0:=hW;obtain⟨p,q,hA,hV,rfl,_,_⟩:=hW
 have hgs:gs=[]∧q=[]:=by
  rw[hv]at hV;exact trodVars_none hV
 obtain⟨rfl,rfl⟩:=hgs;simp only[List.append_nil]at hW0 ⊢;have hlt:=fun x hx=>hW0.lt x hx
 refine⟨ds,[],p,[],p,[],hW0,?_,?_,?_,hb.frame _,fun h=>by cases h⟩
 ·rw[List.append_nil,hfn,hrt];exact trodAll_mk1 (shut_bool hu true)
 ·rw[List.append_nil,hfa];exact trodAll_below hl hb _ _ _ _ hread hA hlt
 ·rw[List.append_nil,hfv,hv]
  rfl
end
end Mem
end Go.Proofs.YtaeddnjjeholgaaGreat
