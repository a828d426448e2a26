/- Texts side by side. -/
import Derived.Test.YtcccdikhfgpamaaGreatUfaj
import Derived.Test.YtcccdikhfgpamaaGreatUfbk
set_option linter.unusedVariables false
set_option linter.unusedSimpArgs false
set_option maxRecDepth 100000
set_option maxHeartbeats 16000000
namespace Go.Proofs.YtcccdikhfgpamaaGreat
open Kap Go.ChangeShapes Go.WideShapes Go.ChangeAt Go.RowKit Mem Tre Ref3 Law3 Fix3 Cfg Crd CrdB CrdC Rr4 Bkp Bks Bcl Dlk Stk Apt Bko Bku Bka Bkc
namespace Mdp
structure Bx where
 A:Option Addr
 C:Option Addr
 c:Nat
 d:Nat
 rl:List Rc
 b:Bk
def bx0:Bx:=⟨none,none,0,0,[],⟨0,0,[],[]⟩⟩
def gX(l:List Bx)(i:Nat):Bx:=l.getD i bx0
def bxV(x:Bx):List Value:=[.int .i64 x.b.sh,.int .i64 x.b.ca,.slice x.A x.b.rows.length x.c,.slice x.C x.b.op.length x.d]
def bxs(l:List Bx):List Value:=l.flatMap bxV
theorem bxs_snoc(l:List Bx)(x:Bx):bxs (l++[x])=bxs l++bxV x:=by simp[bxs]
theorem bxs_get(l:List Bx)(i j:Nat)(hi:i<l.length)(hj:j<4):(bxs l)[i*4+j]? =(bxV (gX l i))[j]? :=by
 induction l generalizing i with
 |nil=>simp at hi
 |cons m l ih=>
  cases i with
  |zero=>
   show(bxV m++bxs l)[0*4+j]? =(bxV m)[j]?;rw[List.getElem?_append_left (by simp[bxV];omega)];simp
  |succ i=>
   have h:=ih i (by simpa using hi);show(bxV m++bxs l)[(i+1)*4+j]? =(bxV (gX l i))[j]?;rw[List.getElem?_append_right (by simp[bxV];omega),←h]
   congr 1
   simp[bxV];omega
theorem bxs_set(l:List Bx)(i:Nat)(x:Bx)(hi:i<l.length):bxs (l.set i x)=((((bxs l).set (i*4) (.int .i64 x.b.sh)).set (i*4+1) (.int .i64 x.b.ca)).set (i*4+2) (.slice x.A x.b.rows.length x.c)).set (i*4+3) (.slice x.C x.b.op.length x.d):=by
 induction l generalizing i with
 |nil=>simp at hi
 |cons m l ih=>
  cases i with
  |zero=>simp[bxs,bxV]
  |succ i=>
   have h:=ih i (by simpa using hi);have e: ∀l',bxs (m :: l')=bxV m++bxs l':=fun _=>rfl
   have a:(i+1)*4=i*4+1+1+1+1:=by omega
   simp only[List.set_cons_succ];rw[e,e,h,a];simp[bxV]
theorem gX_set(l:List Bx)(i k:Nat)(x:Bx)(hi:i<l.length):gX (l.set i x) k=if k=i then x else gX l k:=by
 unfold gX;by_cases h:k=i
 ·subst h;simp[hi]
 ·rw[if_neg h];simp[List.getD,List.getElem?_set,show ¬i=k from fun e=>h e.symm]
theorem gX_snoc(l:List Bx)(k:Nat)(x:Bx)(hk:k<l.length+1):gX (l++[x]) k=if k=l.length then x else gX l k:=by
 unfold gX;by_cases h:k=l.length
 ·subst h;simp
 ·rw[if_neg h];simp[List.getD,List.getElem?_append_left (show k<l.length by omega)]
structure Mq where
 sh:Int
 wi:Int
 ra:Int
 ta:Int
 A:Option Addr
 B:Option Addr
 C:Option Addr
 nl:Nat
 al:Nat
 sl:Nat
 c:Nat
 d:Nat
 f:Nat
 nd:List (Int×Int)
 ac:List Int
 sy:List (Int×Int×Int×Nat)
 Ab:Option Addr
 nb:Nat
 cb:Nat
 xs:List Bx
 An:Option Addr
 Au:Option Addr
 n1:Nat
 n2:Nat
 d1:Nat
 d2:Nat
 cl:List (Int×Int)
 cu:List Int
 ep:Int
 off:Bool
def mqV(q:Mq):Array Value:= #[.int .i64 q.sh,.int .i64 q.wi,.int .i64 q.ra,.int .i64 q.ta,.slice q.A q.nl q.c,.slice q.B q.al q.d,.slice q.C q.sl q.f,.slice q.Ab q.nb q.cb,.slice q.An q.n1 q.d1,.slice q.Au q.n2 q.d2,.int .i64 q.ep,.bool q.off]
def Far(g:Nat)(Ab X:Option Addr)(ys:List Value):Prop:=ys=[]∨ ∀a,X=some a→a.block≠g∧ ∀b,Ab=some b→a.block≠b.block
def FarX(g:Nat)(Ab:Option Addr)(x:Bx):Prop:=Far g Ab x.A (rcs x.rl)∧Far g Ab x.C (ens x.b.op)∧ ∀j,j<x.rl.length→Far g Ab (gC x.rl j).A (ints (gC x.rl j).r.ns)
structure Mm(base:Nat)(w:World)(g:Nat)(q:Mq):Prop where
 blk:Blk w g 144 (mqV q)
 row:w.ownsRow base 181 4 (.slice q.Ab q.nb q.cb) q.nb (bxs q.xs)
 gb:base≤g
 l1:q.nl=q.nd.length
 l2:q.al=q.ac.length
 l3:q.sl=q.sy.length
 l4:q.nb=q.xs.length
 l5:q.n1=q.cl.length
 l6:q.n2=q.cu.length
 nds:Nds w w.heap.size q.A q.nd
 ris:Ris w w.heap.size q.B q.ac
 smb:Smb w w.heap.size q.C q.sy
 cn:Nds w w.heap.size q.An q.cl
 cr:Ris w w.heap.size q.Au q.cu
 bm: ∀i,i<q.xs.length→Bm w (gX q.xs i).A (gX q.xs i).C (gX q.xs i).rl (gX q.xs i).b
 f1:Far g q.Ab q.A (Mem.nds q.nd)
 f2:Far g q.Ab q.B (ints q.ac)
 f3:Far g q.Ab q.C (smbs q.sy)
 f4:Far g q.Ab q.An (Mem.nds q.cl)
 f5:Far g q.Ab q.Au (ints q.cu)
 fx: ∀i,i<q.xs.length→FarX g q.Ab (gX q.xs i)
theorem Mm_below{base:Nat}{w w':World}{g:Nat}{q:Mq}(h:Mm base w g q)(hb:Below w.heap.size w w'):Mm base w' g q:=
 ⟨Blk.below' h.blk hb,own_below h.row hb,h.gb,h.l1,h.l2,h.l3,h.l4,h.l5,h.l6,Rd.below' h.nds hb hb.size,Rd.below' h.ris hb hb.size,Rd.below' h.smb hb hb.size,Rd.below' h.cn hb hb.size,Rd.below' h.cr hb hb.size,fun i a=>(h.bm i a).below hb,h.f1,h.f2,h.f3,h.f4,h.f5,h.fx⟩
structure Kp(w w':World)(g:Nat)(Ab:Option Addr):Prop where
 os:w'.os=w.os
 tape:w'.tape=w.tape
 output:w'.output=w.output
 size:w.heap.size≤w'.heap.size
 block: ∀k,k<w.heap.size→k≠g→(∀b,Ab=some b→k≠b.block)→w'.heap[k]? =w.heap[k]?
section
variable {w w' w1:World} {g:Nat} {Ab:Option Addr}
theorem Kp_of_below(h:Below w.heap.size w w'):Kp w w' g Ab:=⟨h.os,h.tape,h.output,h.size,fun k a _ _=>h.block k a⟩
theorem Kp_trans(h:Kp w w1 g Ab)(h':Kp w1 w' g Ab):Kp w w' g Ab:=
 ⟨h'.os.trans h.os,h'.tape.trans h.tape,h'.output.trans h.output,Nat.le_trans h.size h'.size,fun k a b c=>(h'.block k (Nat.lt_of_lt_of_le a h.size) b c).trans (h.block k a b c)⟩
theorem Kp_step(h:Kp w w1 g Ab)(h':Below w1.heap.size w1 w'):Kp w w' g Ab:=Kp_trans h (Kp_of_below h')
theorem Kp_setg(h:Kp w w1 g Ab)(j:Nat)(v:Value):Kp w (w1.setCell ⟨g,j,none⟩ v) g Ab:=
 ⟨h.os,h.tape,h.output,by simpa[World.setCell] using h.size,fun k b a c=>(heap_setCell_other w1 ⟨g,j,none⟩ k v a).trans (h.block k b a c)⟩
theorem Kp_setb{gb:Nat}(h:Kp w w1 g (some ⟨gb,0,none⟩))(j:Nat)(v:Value):Kp w (w1.setCell ⟨gb,j,none⟩ v) g (some ⟨gb,0,none⟩):=
 ⟨h.os,h.tape,h.output,by simpa[World.setCell] using h.size,fun k b c a=>(heap_setCell_other w1 ⟨gb,j,none⟩ k v (a ⟨gb,0,none⟩ rfl)).trans (h.block k b c a)⟩
theorem Kp_past{gn:Nat}(h:Kp w w1 g Ab)(hg:w.heap.size≤gn)(j:Nat)(v:Value):Kp w (w1.setCell ⟨gn,j,none⟩ v) g Ab:=
 ⟨h.os,h.tape,h.output,by simpa[World.setCell] using h.size,fun k a b c=>(heap_setCell_other w1 ⟨gn,j,none⟩ k v (by show k≠gn;omega)).trans (h.block k a b c)⟩
theorem Rd_setg{X:Option Addr}{xs:List Value}(h:Rd w w.heap.size X xs)(hf:Far g Ab X xs)(j:Nat)(v:Value):Rd (w.setCell ⟨g,j,none⟩ v) (w.setCell ⟨g,j,none⟩ v).heap.size X xs:=by
 rcases hf with hf|hf
 ·exact .inl hf
 ·exact Rd.keep' h (Nat.lt_succ_self _) (fun a b=>(hf a b).1) _
theorem Rd_setb{gb:Nat}{X:Option Addr}{xs:List Value}(h:Rd w w.heap.size X xs)(hf:Far g (some ⟨gb,0,none⟩) X xs)(j:Nat)(v:Value):Rd (w.setCell ⟨gb,j,none⟩ v) (w.setCell ⟨gb,j,none⟩ v).heap.size X xs:=by
 rcases hf with hf|hf
 ·exact .inl hf
 ·exact Rd.keep' h (Nat.lt_succ_self _) (fun a b=>(hf a b).2 ⟨gb,0,none⟩ rfl) _
end
theorem Bm_setg{w:World}{g:Nat}{Ab:Option Addr}{x:Bx}(h:Bm w x.A x.C x.rl x.b)(hf:FarX g Ab x)(j:Nat)(v:Value):Bm (w.setCell ⟨g,j,none⟩ v) x.A x.C x.rl x.b:=
 ⟨Rd_setg h.r hf.1 j v,h.e,fun i a=>Rd_setg (h.n i a) (hf.2.2 i a) j v,Rd_setg h.o hf.2.1 j v⟩
theorem Bm_setb{w:World}{g gb:Nat}{x:Bx}(h:Bm w x.A x.C x.rl x.b)(hf:FarX g (some ⟨gb,0,none⟩) x)(j:Nat)(v:Value):Bm (w.setCell ⟨gb,j,none⟩ v) x.A x.C x.rl x.b:=
 ⟨Rd_setb h.r hf.1 j v,h.e,fun i a=>Rd_setb (h.n i a) (hf.2.2 i a) j v,Rd_setb h.o hf.2.1 j v⟩
theorem Mm_set{base:Nat}{w:World}{g:Nat}{q:Mq}(h:Mm base w g q)(j:Nat)(v:Value)(q':Mq)(hq:mqV q'=(mqV q).setIfInBounds j v)
  (e:q'.A=q.A∧q'.B=q.B∧q'.C=q.C∧q'.nl=q.nl∧q'.al=q.al∧q'.sl=q.sl∧q'.nd=q.nd∧q'.ac=q.ac∧q'.sy=q.sy∧q'.Ab=q.Ab∧q'.nb=q.nb∧q'.cb=q.cb∧q'.xs=q.xs∧q'.An=q.An∧q'.Au=q.Au∧q'.n1=q.n1∧q'.n2=q.n2∧q'.cl=q.cl∧q'.cu=q.cu):
  Mm base (w.setCell ⟨g,j,none⟩ v) g q':=by
 obtain⟨k,l,m,n,A,B,C,nl,al,sl,c,d,f,nd,ac,sy,Ab,nb,cb,xs,An,Au,n1,n2,o,p,cl,cu,r,b⟩:=q';simp only at e hq;obtain⟨rfl,rfl,rfl,rfl,rfl,rfl,rfl,rfl,rfl,rfl,rfl,rfl,rfl,rfl,rfl,rfl,rfl,rfl,rfl⟩:=e;refine⟨?_,own_st h.row h.blk (by decide) j v,h.gb,h.l1,h.l2,h.l3,h.l4,h.l5,h.l6,Rd_setg h.nds h.f1 j v,Rd_setg h.ris h.f2 j v,Rd_setg h.smb h.f3 j v,Rd_setg h.cn h.f4 j v,Rd_setg h.cr h.f5 j v,fun i a=>Bm_setg (h.bm i a) (h.fx i a) j v,h.f1,h.f2,h.f3,h.f4,h.f5,h.fx⟩;rw[hq];exact blk_st h.blk j v
theorem Mm_off{base:Nat}{w:World}{g:Nat}{q:Mq}(h:Mm base w g q)(b:Bool):Mm base (w.setCell ⟨g,11,none⟩ (.bool b)) g {q with off:=b}:=
 Mm_set h 11 _ _ rfl ⟨rfl,rfl,rfl,rfl,rfl,rfl,rfl,rfl,rfl,rfl,rfl,rfl,rfl,rfl,rfl,rfl,rfl,rfl,rfl⟩
theorem Mm_ep{base:Nat}{w:World}{g:Nat}{q:Mq}(h:Mm base w g q)(x:Int):Mm base (w.setCell ⟨g,10,none⟩ (.int .i64 x)) g {q with ep:=x}:=
 Mm_set h 10 _ _ rfl ⟨rfl,rfl,rfl,rfl,rfl,rfl,rfl,rfl,rfl,rfl,rfl,rfl,rfl,rfl,rfl,rfl,rfl,rfl,rfl⟩
theorem Mm_cr{base:Nat}{w:World}{g:Nat}{q:Mq}(h:Mm base w g q){An Au:Option Addr}{n1 n2 d1 d2:Nat}{cl:List (Int×Int)}{cu:List Int}(hn:Nds w w.heap.size An cl)(hu:Ris w w.heap.size Au cu)(fn:Far g q.Ab An (nds cl))(fu:Far g q.Ab Au (ints cu))(e1:n1=cl.length)(e2:n2=cu.length):
  Mm base ((w.setCell ⟨g,8,none⟩ (.slice An n1 d1)).setCell ⟨g,9,none⟩ (.slice Au n2 d2)) g {q with An:=An,Au:=Au,n1:=n1,n2:=n2,d1:=d1,d2:=d2,cl:=cl,cu:=cu}:=by
 have s:=fun {X:Option Addr} {xs:List Value} (hx:Rd w w.heap.size X xs) (b:Far g q.Ab X xs)=>Rd_setg (Rd_setg hx b 8 (.slice An n1 d1)) b 9 (.slice Au n2 d2)
 exact⟨blk_st (blk_st h.blk 8 _) 9 _,own_st (own_st h.row h.blk (by decide) 8 _) (blk_st h.blk 8 _) (by decide) 9 _,h.gb,h.l1,h.l2,h.l3,h.l4,e1,e2,s h.nds h.f1,s h.ris h.f2,s h.smb h.f3,s hn fn,s hu fu,fun i a=>Bm_setg (Bm_setg (h.bm i a) (h.fx i a) 8 _) (h.fx i a) 9 _,h.f1,h.f2,h.f3,fn,fu,h.fx⟩
theorem Mm_book{base:Nat}{w:World}{g gb:Nat}{q:Mq}(h:Mm base w g q)(hA:q.Ab=some ⟨gb,0,none⟩){i:Nat}(hi:i<q.xs.length){x:Bx}(hx:Bm w x.A x.C x.rl x.b)(fx:FarX g q.Ab x):
  Mm base ((((w.setCell ⟨gb,i*4,none⟩ (.int .i64 x.b.sh)).setCell ⟨gb,i*4+1,none⟩ (.int .i64 x.b.ca)).setCell ⟨gb,i*4+2,none⟩ (.slice x.A x.b.rows.length x.c)).setCell ⟨gb,i*4+3,none⟩ (.slice x.C x.b.op.length x.d)) g {q with xs:=q.xs.set i x}:=by
 obtain⟨sh,wi,ra,ta,A,B,C,nl,al,sl,c,d,f,nd,ac,sy,Ab,Z,cb,xs,An,Au,n1,n2,d1,d2,cl,cu,ep,aa⟩:=q;simp only at hA hi fx;subst hA;obtain⟨J,H,K,L,O,P,Q,R,S,t,v,z,E,F,G,l,m,n,o,p,r⟩:=h;simp only at J H K L O P Q R S t v z E F G l m n o p r;obtain⟨T,g1⟩:=World.ownsRow.stored H (i*4) (.int .i64 x.b.sh);obtain⟨U,g2⟩:=World.ownsRow.stored T (i*4+1) (.int .i64 x.b.ca);obtain⟨V,g3⟩:=World.ownsRow.stored U (i*4+2) (.slice x.A x.b.rows.length x.c);obtain⟨s4,g4⟩:=World.ownsRow.stored V (i*4+3) (.slice x.C x.b.op.length x.d);have k1:=blk_own_grown J H (by decide) g1;have k2:=blk_own_grown k1 T (by decide) g2;have k3:=blk_own_grown k2 U (by decide) g3;have k4:=blk_own_grown k3 V (by decide) g4;have s:=fun {X:Option Addr} {W:List Value} (hy:Rd w w.heap.size X W) (a:Far g (some ⟨gb,0,none⟩) X W)=>Rd_setb (Rd_setb (Rd_setb (Rd_setb hy a (i*4) (.int .i64 x.b.sh)) a (i*4+1) (.int .i64 x.b.ca)) a (i*4+2) (.slice x.A x.b.rows.length x.c)) a (i*4+3) (.slice x.C x.b.op.length x.d)
 have Y:=fun {y:Bx} (hy:Bm w y.A y.C y.rl y.b) (a:FarX g (some ⟨gb,0,none⟩) y)=>Bm_setb (Bm_setb (Bm_setb (Bm_setb hy a (i*4) (.int .i64 x.b.sh)) a (i*4+1) (.int .i64 x.b.ca)) a (i*4+2) (.slice x.A x.b.rows.length x.c)) a (i*4+3) (.slice x.C x.b.op.length x.d)
 refine⟨k4,?_,K,L,O,P,?_,R,S,s t l,s v m,s z n,s E o,s F p,?_,l,m,n,o,p,?_⟩
 ·show World.ownsRow _ _ _ _ _ _ (bxs (xs.set i x));rw[bxs_set _ _ _ hi];exact s4
 ·show Z=(xs.set i x).length;rw[List.length_set];exact Q
 ·intro k I;have j:k<xs.length:=by simpa using I
  show Bm _ (gX (xs.set i x) k).A (gX (xs.set i x) k).C (gX (xs.set i x) k).rl (gX (xs.set i x) k).b;rw[gX_set _ _ _ _ hi];by_cases e:k=i
  ·rw[if_pos e];exact Y hx fx
  ·rw[if_neg e];exact Y (G k j) (r k j)
 ·intro k I;have j:k<xs.length:=by simpa using I
  show FarX g _ (gX (xs.set i x) k);rw[gX_set _ _ _ _ hi];by_cases e:k=i
  ·rw[if_pos e];exact fx
  ·rw[if_neg e];exact r k j
theorem Far_new{g base:Nat}{Ab X:Option Addr}{ys:List Value}(hg:g<base)(hb: ∀b,Ab=some b→b.block<base)(hx: ∀a,X=some a→base≤a.block):Far g Ab X ys:=
 .inr fun a d=>⟨by have:=hx a d;omega,fun b c=>by have:=hx a d;have:=hb b c;omega⟩
theorem FarX_new{g base:Nat}{Ab:Option Addr}{x:Bx}(hg:g<base)(hb: ∀b,Ab=some b→b.block<base)(hx:Fb base x.A x.C x.rl):FarX g Ab x:=
 ⟨Far_new hg hb hx.1,Far_new hg hb hx.2.1,fun j a=>Far_new hg hb (hx.2.2 j a)⟩
theorem Far_of{w:World}{B g:Nat}{Ab X:Option Addr}{ys:List Value}(h:Rd w B X ys)(hg:B≤g∨ ∀a,X=some a→a.block≠g)(hb: ∀b,Ab=some b→B≤b.block∨ ∀a,X=some a→a.block≠b.block):Far g Ab X ys:=by
 rcases h with h|⟨b,o,hA,hlt,_⟩
 ·exact .inl h
 ·refine .inr fun a c=>⟨?_,fun e d=>?_⟩
  ·rcases hg with hg|hg
   ·rw[hA]at c;injection c with c
    subst c;show b≠g;omega
   ·exact hg a c
  ·rcases hb e d with h1|h1
   ·rw[hA]at c;injection c with c
    subst c;show b≠e.block;omega
   ·exact h1 a c
theorem Mm_lt{base:Nat}{w:World}{g:Nat}{q:Mq}(h:Mm base w g q):g<w.heap.size∧ ∀b,q.Ab=some b→b.block<w.heap.size:=
 ⟨h.blk.lt,fun b a=>(World.ownsRow.lt h.row b.block (by rw[a];rfl)).2⟩
theorem q12_of{W:World}{g:Nat}{te:TypeId}{v0 v1 v2 v3 v4 v5 v6 v7 v8 v9 v10 v11:Value}(h:Blk W g te #[v0,v1,v2,v3,v4,v5,v6,v7,v8,v9,v10,v11]):
  W.cell? ⟨g,0,none⟩=some v0∧W.cell? ⟨g,1,none⟩=some v1∧W.cell? ⟨g,2,none⟩=some v2∧W.cell? ⟨g,3,none⟩=some v3∧W.cell? ⟨g,4,none⟩=some v4∧W.cell? ⟨g,5,none⟩=some v5∧W.cell? ⟨g,6,none⟩=some v6∧W.cell? ⟨g,7,none⟩=some v7∧W.cell? ⟨g,8,none⟩=some v8∧W.cell? ⟨g,9,none⟩=some v9∧W.cell? ⟨g,10,none⟩=some v10∧W.cell? ⟨g,11,none⟩=some v11∧W.frozen? ⟨g,0,none⟩=false∧W.frozen? ⟨g,1,none⟩=false∧W.frozen? ⟨g,2,none⟩=false∧W.frozen? ⟨g,3,none⟩=false∧W.frozen? ⟨g,4,none⟩=false∧W.frozen? ⟨g,5,none⟩=false∧W.frozen? ⟨g,6,none⟩=false∧W.frozen? ⟨g,7,none⟩=false∧W.frozen? ⟨g,8,none⟩=false∧W.frozen? ⟨g,9,none⟩=false∧W.frozen? ⟨g,10,none⟩=false∧W.frozen? ⟨g,11,none⟩=false:=
 ⟨h.cell 0,h.cell 1,h.cell 2,h.cell 3,h.cell 4,h.cell 5,h.cell 6,h.cell 7,h.cell 8,h.cell 9,h.cell 10,h.cell 11,h.thaw 0,h.thaw 1,h.thaw 2,h.thaw 3,h.thaw 4,h.thaw 5,h.thaw 6,h.thaw 7,h.thaw 8,h.thaw 9,h.thaw 10,h.thaw 11⟩
end Mdp
namespace Mdz
open Mdp
def FarE(z:Nat)(X:Option Addr)(xs:List Value):Prop:=xs=[]∨ ∀a,X=some a→a.block≠z
variable {x:Bx} {xs:List Value} {q:Mq} {base g z:Nat} {X:Option Addr} {w:World}
theorem FarE_of{B:Nat}(h:Rd w B X xs)(hz:B≤z):FarE z X xs:=by
 rcases h with h|⟨b,o,hA,hb,_⟩
 ·exact .inl h
 ·refine .inr fun a c=>?_
  rw[hA]at c;injection c with c
  subst c;show b≠z;omega
theorem FarE_new(hz:z<base)(hx: ∀a,X=some a→base≤a.block):FarE z X xs:= .inr fun a b=>by have:=hx a b;omega
theorem Rd_setz(h:Rd w w.heap.size X xs)(hf:FarE z X xs)(j:Nat)(v:Value):Rd (w.setCell ⟨z,j,none⟩ v) (w.setCell ⟨z,j,none⟩ v).heap.size X xs:=by
 rcases hf with hf|hf
 ·exact .inl hf
 ·exact Rd.keep' h (Nat.lt_succ_self _) hf _
def FzB(z:Nat)(x:Bx):Prop:=FarE z x.A (rcs x.rl)∧FarE z x.C (ens x.b.op)∧ ∀j,j<x.rl.length→FarE z (gC x.rl j).A (ints (gC x.rl j).r.ns)
theorem Bm_setz(h:Bm w x.A x.C x.rl x.b)(hf:FzB z x)(j:Nat)(v:Value):Bm (w.setCell ⟨z,j,none⟩ v) x.A x.C x.rl x.b:=
 ⟨Rd_setz h.r hf.1 j v,h.e,fun i a=>Rd_setz (h.n i a) (hf.2.2 i a) j v,Rd_setz h.o hf.2.1 j v⟩
structure Mz(z g:Nat)(q:Mq):Prop where
 ne:z≠g
 z1:FarE z q.A (nds q.nd)
 z2:FarE z q.B (ints q.ac)
 z3:FarE z q.C (smbs q.sy)
 z4:FarE z q.An (nds q.cl)
 z5:FarE z q.Au (ints q.cu)
 zx: ∀i,i<q.xs.length→FzB z (gX q.xs i)
theorem Mz_of(h:Mm base w g q)(hz:w.heap.size≤z):Mz z g q:=
 ⟨by have:=h.blk.lt;omega,FarE_of h.nds hz,FarE_of h.ris hz,FarE_of h.smb hz,FarE_of h.cn hz,FarE_of h.cr hz,fun i a=>⟨FarE_of (h.bm i a).r hz,FarE_of (h.bm i a).o hz,fun j b=>FarE_of ((h.bm i a).n j b) hz⟩⟩
theorem Mm_setz{te:TypeId}{cs:Array Value}(h:Mm base w g q)(hm:Mz z g q)(hk:Blk w z te cs)(hne:181≠te)(j:Nat)(v:Value):Mm base (w.setCell ⟨z,j,none⟩ v) g q:=
 ⟨far_st h.blk (fun e=>hm.ne e.symm) v,own_st h.row hk hne j v,h.gb,h.l1,h.l2,h.l3,h.l4,h.l5,h.l6,Rd_setz h.nds hm.z1 j v,Rd_setz h.ris hm.z2 j v,Rd_setz h.smb hm.z3 j v,Rd_setz h.cn hm.z4 j v,Rd_setz h.cr hm.z5 j v,fun i a=>Bm_setz (h.bm i a) (hm.zx i a) j v,h.f1,h.f2,h.f3,h.f4,h.f5,h.fx⟩
theorem Mz_book(h:Mz z g q){i:Nat}(hi:i<q.xs.length){x:Bx}(hx:FzB z x):Mz z g {q with xs:=q.xs.set i x}:=by
 refine⟨h.ne,h.z1,h.z2,h.z3,h.z4,h.z5,fun k b=>?_⟩;have a:k<q.xs.length:=by simpa using b
 show FzB z (gX (q.xs.set i x) k);rw[gX_set _ _ _ _ hi];by_cases e:k=i
 ·rw[if_pos e];exact hx
 ·rw[if_neg e];exact h.zx k a
theorem FzB_new(hz:z<base)(hx:Fb base x.A x.C x.rl):FzB z x:=
 ⟨FarE_new hz hx.1,FarE_new hz hx.2.1,fun j a=>FarE_new hz (hx.2.2 j a)⟩
end Mdz
namespace Mds
open Abv Mdp Mdz
structure Pm where
 sh:Int
 wi:Int
 ra:Int
 ta:Int
 nd:List (Int×Int)
 ac:List Int
 sy:List (Int×Int×Int×Nat)
 bs:List Bk
 cl:List (Int×Int)
 cu:List Int
 ep:Int
 off:Bool
def plO(q:Mq):Pm:=⟨q.sh,q.wi,q.ra,q.ta,q.nd,q.ac,q.sy,q.xs.map Bx.b,q.cl,q.cu,q.ep,q.off⟩
def MadeDo(base g:Nat)(q0:Mq)(p:Pm)(code id:Int)(outs:List (Int×Int))(w:World)(e:Ending)(w':World):Prop:=
 ∃q Ao no co,e= .returned (.tuple #[.agg #[.int .i64 code,.int .i64 id],.slice Ao no co])∧no=outs.length∧Nds w' w'.heap.size Ao outs∧(∀a,Ao=some a→w.heap.size≤a.block)∧Mm base w' g q∧plO q=p∧q.Ab=q0.Ab∧Kp w w' g q0.Ab∧(∀z,z<w.heap.size→Mz z g q0→Mz z g q)
variable {g:Nat}
theorem Mz_same{z:Nat}{sh wi ra ta:Int}{A B C:Option Addr}{nl al sl c d f:Nat}{nd:List (Int×Int)}{ac:List Int}{sy:List (Int×Int×Int×Nat)}{Ab:Option Addr}{nb cb:Nat}{xs:List Bx}{An Au:Option Addr}{n1 n2 d1 d2:Nat}{cl:List (Int×Int)}{cu:List Int}{ep ep':Int}{off off':Bool}(h:Mz z g ⟨sh,wi,ra,ta,A,B,C,nl,al,sl,c,d,f,nd,ac,sy,Ab,nb,cb,xs,An,Au,n1,n2,d1,d2,cl,cu,ep,off⟩):Mz z g ⟨sh,wi,ra,ta,A,B,C,nl,al,sl,c,d,f,nd,ac,sy,Ab,nb,cb,xs,An,Au,n1,n2,d1,d2,cl,cu,ep',off'⟩:=⟨h.ne,h.z1,h.z2,h.z3,h.z4,h.z5,h.zx⟩
theorem madeDo_no{base:Nat}{w w':World}{q q0:Mq}{p:Pm}{code id:Int}(h:Mm base w' g q)(hp:plO q=p)(hA:q.Ab=q0.Ab)(hk:Kp w w' g q0.Ab)(hz: ∀z,z<w.heap.size→Mz z g q0→Mz z g q):MadeDo base g q0 p code id [] w (.returned (.tuple #[.agg #[.int .i64 code,.int .i64 id],.slice none 0 0])) w':=
 ⟨q,none,0,0,rfl,rfl,.inl rfl,fun a b=>(by cases b),h,hp,hA,hk,hz⟩
def Told(code:Int)(w:World)(e:Ending)(w':World):Prop:=e= .returned (.tuple #[.agg #[.int .i64 code,.int .i64 0],.slice none 0 0])∧Below w.heap.size w w'
theorem q2b{W:World}{te:TypeId}{v0 v1:Value}(h:Blk W g te #[v0,v1]):W.cell? ⟨g,0,none⟩=some v0∧W.cell? ⟨g,1,none⟩=some v1∧W.frozen? ⟨g,0,none⟩=false∧W.frozen? ⟨g,1,none⟩=false:=⟨h.cell 0,h.cell 1,h.thaw 0,h.thaw 1⟩
theorem refused_any(code:Int)(w:World):Calls Tryz.prog 52 #[.int .i64 code] w (Told code w):=by
 have a:=κ (β w (.cells (vI code 0) 74));have b:=Blk.fresh w 74 (vI code 0)
 go_enter Tryz.func52,Tryz.ntmps52
 go_wp2_with fail
 obtain⟨c,d,_,_⟩:=q2b b;exact bodyPost_ret (v:= .tuple #[.agg #[ι code,ι 0],.slice none 0 0]) (by simp[results,Tryz.results52,go_sem,c,d]) rfl ⟨rfl,a.o⟩
theorem kill_any(base g:Nat)(q:Mq)(w:World)(h:Hid (Mm base w g q)):
  Calls Tryz.prog 59 #[.pointer (some ⟨g,0,none⟩)] w (MadeDo base g q {plO q with off:=true} 0 q.ep [] w):=by
 obtain⟨j,k,l,m,A,B,C,n,o,p,c,d,f,T,U,V,i,r,s,W,t,x,y,E,F,G,X,Y,ep,off⟩:=q;have Z:=κ (β w (.cells (vI 0 0) 74));have Z0:=κ (Blk.fresh w 74 (vI 0 0));have M0:=κ (Mm_below h.o Z.o);have I:Hid (g≠w.heap.size):=by show _≠_;have:=(Mm_lt h.o).1;omega
 have a:=κ (Mz_of h.o τ)
 go_enter Tryz.func59,Tryz.ntmps59
 go_upto_region 1 with fail
 generalize J:w.heap.size=K at Z0 I a ⊢;have L:=κ J;clear J;generalize (w.alloc (.cells (vI 0 0) 74))=w0 at Z0 Z M0 ⊢;have K0:Hid (Blk w0 g 144 (vQ j k l m A n c B o d C p f i r s t y F x E G ep off)):=M0.o.blk;have M1:=κ (ξ (Mm_off M0.o true));have H:Hid (Blk (w0.setCell (α g 11) (.bool true)) K 74 (vI 0 0)):=far_st Z0.o (fun e=>I.o e.symm) _;have O:Hid (Mz K g ⟨j,k,l,m,A,B,C,n,o,p,c,d,f,T,U,V,i,r,s,W,t,x,y,E,F,G,X,Y,ep,true⟩):=⟨a.o.ne,a.o.z1,a.o.z2,a.o.z3,a.o.z4,a.o.z5,a.o.zx⟩;have U1:Hid (Kp w (w0.setCell (α g 11) (.bool true)) g i):=Kp_setg (Kp_of_below Z.o) 11 _;obtain⟨k0,k1,k2,k3,k4,k5,k6,k7,k8,k9,P,Q,f0,f1,f2,f3,f4,f5,f6,f7,f8,f9,R,S⟩:=q12_of K0.o
 go_upto_region 2 with fail
 clear k0 k1 k2 k3 k4 k5 k6 k7 k8 k9 P Q f0 f1 f2 f3 f4 f5 f6 f7 f8 f9 R S K0 M0 Z Z0;generalize w0.setCell (α g 11) (.bool true)=w1 at M1 H U1 ⊢;have K1:Hid (Blk w1 g 144 (vQ j k l m A n c B o d C p f i r s t y F x E G ep true)):=M1.o.blk;obtain⟨k0,k1,k2,k3,k4,k5,k6,k7,k8,k9,P,Q,f0,f1,f2,f3,f4,f5,f6,f7,f8,f9,R,S⟩:=q12_of K1.o;obtain⟨z0,z1,z2,z3⟩:=q2b H.o;have x1:=χ ((blk_st H.o 0 (ι 0)).cell 1);have F3:Blk (st2 w1 K (ι 0) (ι ep)) K 74 (vI 0 ep):=st2_blk H.o
 have b:MadeDo base g ⟨j,k,l,m,A,B,C,n,o,p,c,d,f,T,U,V,i,r,s,W,t,x,y,E,F,G,X,Y,ep,off⟩ {plO ⟨j,k,l,m,A,B,C,n,o,p,c,d,f,T,U,V,i,r,s,W,t,x,y,E,F,G,X,Y,ep,off⟩ with off:=true} 0 ep [] w (.returned (.tuple #[.agg (vI 0 ep),.slice none 0 0])) (st2 w1 K (ι 0) (ι ep)):=by
  unfold st2;refine madeDo_no (q:=⟨j,k,l,m,A,B,C,n,o,p,c,d,f,T,U,V,i,r,s,W,t,x,y,E,F,G,X,Y,ep,true⟩) (Mm_setz (Mm_setz M1.o O.o H.o (by decide) 0 _) O.o (blk_st H.o 0 _) (by decide) 1 _) rfl rfl ?_ (fun z _ h=>Mz_same h);exact Kp_past (Kp_past U1.o (by rw[L.o];exact τ) 0 _) (by rw[L.o];exact τ) 1 _
 have HF:=κ b;clear b
 go_wp2_with fail
 obtain⟨e0,e1,_,_⟩:=q2b F3;clear F3;unfold st2 at e0 e1 HF;exact bodyPost_ret (v:= .tuple #[.agg #[ι 0,ι ep],.slice none 0 0]) (by simp[results,Tryz.results59,go_sem,e0,e1]) rfl HF.o
def rearmF(p:Pm):Pm×(Int×Int):=if p.off=true then ({p with off:=false,ep:=p.ep+1},(0,p.ep+1)) else (p,(16,0))
theorem rearm_any(base g:Nat)(q:Mq)(w:World)(h:Hid (Mm base w g q))(hep:0≤q.ep∧q.ep≤1000000000):
  Calls Tryz.prog 60 #[.pointer (some ⟨g,0,none⟩)] w (MadeDo base g q (rearmF (plO q)).1 (rearmF (plO q)).2.1 (rearmF (plO q)).2.2 [] w):=by
 obtain⟨i,j,k,l,A,B,C,m,n,o,c,d,f,K,L,O,a,p,r,P,s,t,x,y,E,F,Q,R,ep,aa⟩:=q;have Z:=κ (β w (.cells (vI 0 0) 74));have Z0:=κ (Blk.fresh w 74 (vI 0 0));have M0:=κ (Mm_below h.o Z.o);have Y:Hid (g≠w.heap.size):=by show _≠_;have:=(Mm_lt h.o).1;omega
 have S:=κ (Mz_of h.o τ)
 go_enter Tryz.func60,Tryz.ntmps60
 go_upto_region 1 with fail
 generalize ab:w.heap.size=T at Z0 Y S ⊢;have U:=κ ab;clear ab;generalize (w.alloc (.cells (vI 0 0) 74))=w0 at Z0 Z M0 ⊢;have K0:Hid (Blk w0 g 144 (vQ i j k l A m c B n d C o f a p r s x E t y F ep aa)):=M0.o.blk;have e5:wrap64 (ep+1)=ep+1:=by simp only at hep;unfold wrap64;omega
 clear hep;cases aa with
 |false=>
  have hP:Hid (rearmF (plO ⟨i,j,k,l,A,B,C,m,n,o,c,d,f,K,L,O,a,p,r,P,s,t,x,y,E,F,Q,R,ep,false⟩)=(plO ⟨i,j,k,l,A,B,C,m,n,o,c,d,f,K,L,O,a,p,r,P,s,t,x,y,E,F,Q,R,ep,false⟩,(16,0))):=rfl;rw[hP.o];obtain⟨k0,k1,k2,k3,k4,k5,k6,k7,k8,k9,G,H,f0,f1,f2,f3,f4,f5,f6,f7,f8,f9,I,J⟩:=q12_of K0.o
  go_upto_region 2 with fail
  clear k0 k1 k2 k3 k4 k5 k6 k7 k8 k9 G H f0 f1 f2 f3 f4 f5 f6 f7 f8 f9 I J K0
  go_wp2_with fail
  refine(refused_any 16 _).mono ?_;rintro e W ⟨rfl,V⟩;have M1:=κ (Mm_below M0.o V);have X:=κ (Blk.below' Z0.o V);have U1:Hid (Kp w W g a):=Kp_of_below (below_step Z.o V);clear V M0 Z0 Z;obtain⟨z0,z1,z2,z3⟩:=q2b X.o;have F3:Blk (st2 W T (ι 16) (ι 0)) T 74 (vI 16 0):=st2_blk X.o
  have b:MadeDo base g ⟨i,j,k,l,A,B,C,m,n,o,c,d,f,K,L,O,a,p,r,P,s,t,x,y,E,F,Q,R,ep,false⟩ (plO ⟨i,j,k,l,A,B,C,m,n,o,c,d,f,K,L,O,a,p,r,P,s,t,x,y,E,F,Q,R,ep,false⟩) 16 0 [] w (.returned (.tuple #[.agg (vI 16 0),.slice none 0 0])) (st2 W T (ι 16) (ι 0)):=by
   unfold st2;refine madeDo_no (q:=⟨i,j,k,l,A,B,C,m,n,o,c,d,f,K,L,O,a,p,r,P,s,t,x,y,E,F,Q,R,ep,false⟩) (Mm_setz (Mm_setz M1.o S.o X.o (by decide) 0 _) S.o (blk_st X.o 0 _) (by decide) 1 _) rfl rfl ?_ (fun z _ h=>Mz_same h);exact Kp_past (Kp_past U1.o (by rw[U.o];exact τ) 0 _) (by rw[U.o];exact τ) 1 _
  have HF:=κ b;clear b
  go_wp2_with fail
  obtain⟨e0,e1,_,_⟩:=q2b F3;clear F3;unfold st2 at e0 e1 HF;exact bodyPost_ret (v:= .tuple #[.agg #[ι 16,ι 0],.slice none 0 0]) (by simp[results,Tryz.results60,go_sem,e0,e1]) rfl HF.o
 |true=>
  have hP:Hid (rearmF (plO ⟨i,j,k,l,A,B,C,m,n,o,c,d,f,K,L,O,a,p,r,P,s,t,x,y,E,F,Q,R,ep,true⟩)=({plO ⟨i,j,k,l,A,B,C,m,n,o,c,d,f,K,L,O,a,p,r,P,s,t,x,y,E,F,Q,R,ep,true⟩ with off:=false,ep:=ep+1},(0,ep+1))):=rfl;rw[hP.o];have M1:=κ (ξ (Mm_off M0.o false));have X:Hid (Blk (w0.setCell (α g 11) (.bool false)) T 74 (vI 0 0)):=far_st Z0.o (fun e=>Y.o e.symm) _;have ad:Hid (Mz T g ⟨i,j,k,l,A,B,C,m,n,o,c,d,f,K,L,O,a,p,r,P,s,t,x,y,E,F,Q,R,ep+1,false⟩):=⟨S.o.ne,S.o.z1,S.o.z2,S.o.z3,S.o.z4,S.o.z5,S.o.zx⟩;have U1:Hid (Kp w (w0.setCell (α g 11) (.bool false)) g a):=Kp_setg (Kp_of_below Z.o) 11 _;obtain⟨k0,k1,k2,k3,k4,k5,k6,k7,k8,k9,G,H,f0,f1,f2,f3,f4,f5,f6,f7,f8,f9,I,J⟩:=q12_of K0.o
  go_upto_region 4 with fail
  clear k0 k1 k2 k3 k4 k5 k6 k7 k8 k9 G H f0 f1 f2 f3 f4 f5 f6 f7 f8 f9 I J K0 M0 Z Z0;generalize w0.setCell (α g 11) (.bool false)=W at M1 X U1 ⊢;have K1:Hid (Blk W g 144 (vQ i j k l A m c B n d C o f a p r s x E t y F ep false)):=M1.o.blk;have M2:=κ (ξ (Mm_ep M1.o (ep+1)));have Z2:Hid (Blk (W.setCell (α g 10) (ι (ep+1))) T 74 (vI 0 0)):=far_st X.o (fun e=>Y.o e.symm) _;have U2:Hid (Kp w (W.setCell (α g 10) (ι (ep+1))) g a):=Kp_setg U1.o 10 _;obtain⟨k0,k1,k2,k3,k4,k5,k6,k7,k8,k9,G,H,f0,f1,f2,f3,f4,f5,f6,f7,f8,f9,I,J⟩:=q12_of K1.o
  go_upto_region 5 with fail
  clear k0 k1 k2 k3 k4 k5 k6 k7 k8 k9 G H f0 f1 f2 f3 f4 f5 f6 f7 f8 f9 I J K1 M1 U1 X;generalize W.setCell (α g 10) (ι (ep+1))=w2 at M2 Z2 U2 ⊢;have K2:Hid (Blk w2 g 144 (vQ i j k l A m c B n d C o f a p r s x E t y F (ep+1) false)):=M2.o.blk;obtain⟨k0,k1,k2,k3,k4,k5,k6,k7,k8,k9,G,H,f0,f1,f2,f3,f4,f5,f6,f7,f8,f9,I,J⟩:=q12_of K2.o;have x1:=χ ((blk_st Z2.o 0 (ι 0)).cell 1);obtain⟨z0,z1,z2,z3⟩:=q2b Z2.o;have F3:Blk (st2 w2 T (ι 0) (ι (ep+1))) T 74 (vI 0 (ep+1)):=st2_blk Z2.o
  have b:MadeDo base g ⟨i,j,k,l,A,B,C,m,n,o,c,d,f,K,L,O,a,p,r,P,s,t,x,y,E,F,Q,R,ep,true⟩ {plO ⟨i,j,k,l,A,B,C,m,n,o,c,d,f,K,L,O,a,p,r,P,s,t,x,y,E,F,Q,R,ep,true⟩ with off:=false,ep:=ep+1} 0 (ep+1) [] w (.returned (.tuple #[.agg (vI 0 (ep+1)),.slice none 0 0])) (st2 w2 T (ι 0) (ι (ep+1))):=by
   unfold st2;refine madeDo_no (q:=⟨i,j,k,l,A,B,C,m,n,o,c,d,f,K,L,O,a,p,r,P,s,t,x,y,E,F,Q,R,ep+1,false⟩) (Mm_setz (Mm_setz M2.o ad.o Z2.o (by decide) 0 _) ad.o (blk_st Z2.o 0 _) (by decide) 1 _) rfl rfl ?_ (fun z _ h=>Mz_same h);exact Kp_past (Kp_past U2.o (by rw[U.o];exact τ) 0 _) (by rw[U.o];exact τ) 1 _
  have HF:=κ b;clear b
  go_wp2_with fail
  obtain⟨e0,e1,_,_⟩:=q2b F3;clear F3;unfold st2 at e0 e1 HF;exact bodyPost_ret (v:= .tuple #[.agg #[ι 0,ι (ep+1)],.slice none 0 0]) (by simp[results,Tryz.results60,go_sem,e0,e1]) rfl HF.o
end Mds
end Go.Proofs.YtcccdikhfgpamaaGreat
