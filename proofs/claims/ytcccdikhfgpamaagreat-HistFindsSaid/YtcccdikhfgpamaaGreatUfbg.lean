/- Texts side by side. -/
import Derived.Test.YtcccdikhfgpamaaGreatUfau
import Derived.Test.YtcccdikhfgpamaaGreatUfba
import Derived.Test.YtcccdikhfgpamaaGreatUfbb
import Derived.Test.YtcccdikhfgpamaaGreatUfbf
set_option linter.unusedVariables false
set_option linter.unusedSimpArgs false
set_option maxRecDepth 100000
set_option maxHeartbeats 16000000
namespace Go.Proofs.YtcccdikhfgpamaaGreat
open Kap Abv Go.ChangeShapes Go.WideShapes Go.ChangeAt Go.RowKit Mem Tre Ref3 Law3 Fix3 Cfg Crd CrdB CrdC Rr4 Bkp Bks Bcl Dlk Stk Apt Bko Bku Bka Bkc Rbd
namespace Rmp
open Mdp hiding Mm Mm_below Mm_set Mm_off Mm_ep Mm_cr Mm_book Mm_lt
open Mdz hiding Mz_of Mm_setz
open Mdb hiding Mm_push
structure Rm(base:Nat)(w:World)(g:Nat)(q:Mq):Prop where
 blk:Blk w g 118 (mqV q)
 row:w.ownsRow base 122 4 (.slice q.Ab q.nb q.cb) q.nb (bxs q.xs)
 gb:base≤g
 l1:q.nl=q.nd.length
 l2:q.al=q.ac.length
 l3:q.sl=q.sy.length
 l4:q.nb=q.xs.length
 l5:q.n1=q.cl.length
 l6:q.n2=q.cu.length
 nds:Nds w w.heap.size q.A q.nd
 ris:Ris w w.heap.size q.B q.ac
 smb:Smb w w.heap.size q.C q.sy
 cn:Nds w w.heap.size q.An q.cl
 cr:Ris w w.heap.size q.Au q.cu
 bm: ∀i,i<q.xs.length→Bm w (gX q.xs i).A (gX q.xs i).C (gX q.xs i).rl (gX q.xs i).b
 f1:Far g q.Ab q.A (Mem.nds q.nd)
 f2:Far g q.Ab q.B (ints q.ac)
 f3:Far g q.Ab q.C (smbs q.sy)
 f4:Far g q.Ab q.An (Mem.nds q.cl)
 f5:Far g q.Ab q.Au (ints q.cu)
 fx: ∀i,i<q.xs.length→FarX g q.Ab (gX q.xs i)
variable {b b':Bk} {rl rl':List Rc} {q:Mq} {B base c c' d d' g z:Nat} {A A' C C':Option Addr} {w w':World}
theorem Rm_below(h:Rm base w g q)(hb:Below w.heap.size w w'):Rm base w' g q:=
 ⟨Blk.below' h.blk hb,own_below h.row hb,h.gb,h.l1,h.l2,h.l3,h.l4,h.l5,h.l6,Rd.below' h.nds hb hb.size,Rd.below' h.ris hb hb.size,Rd.below' h.smb hb hb.size,Rd.below' h.cn hb hb.size,Rd.below' h.cr hb hb.size,fun i a=>(h.bm i a).below hb,h.f1,h.f2,h.f3,h.f4,h.f5,h.fx⟩
theorem Rm_set(h:Rm base w g q)(j:Nat)(v:Value)(q':Mq)(hq:mqV q'=(mqV q).setIfInBounds j v)
  (e:q'.A=q.A∧q'.B=q.B∧q'.C=q.C∧q'.nl=q.nl∧q'.al=q.al∧q'.sl=q.sl∧q'.nd=q.nd∧q'.ac=q.ac∧q'.sy=q.sy∧q'.Ab=q.Ab∧q'.nb=q.nb∧q'.cb=q.cb∧q'.xs=q.xs∧q'.An=q.An∧q'.Au=q.Au∧q'.n1=q.n1∧q'.n2=q.n2∧q'.cl=q.cl∧q'.cu=q.cu):
  Rm base (w.setCell ⟨g,j,none⟩ v) g q':=by
 obtain⟨l,m,n,o,A,B,C,nl,al,sl,c,d,f,nd,ac,sy,Ab,nb,cb,xs,An,Au,n1,n2,p,r,cl,cu,s,k⟩:=q';simp only at e hq;obtain⟨rfl,rfl,rfl,rfl,rfl,rfl,rfl,rfl,rfl,rfl,rfl,rfl,rfl,rfl,rfl,rfl,rfl,rfl,rfl⟩:=e;refine⟨?_,own_st h.row h.blk (by decide) j v,h.gb,h.l1,h.l2,h.l3,h.l4,h.l5,h.l6,Rd_setg h.nds h.f1 j v,Rd_setg h.ris h.f2 j v,Rd_setg h.smb h.f3 j v,Rd_setg h.cn h.f4 j v,Rd_setg h.cr h.f5 j v,fun i a=>Bm_setg (h.bm i a) (h.fx i a) j v,h.f1,h.f2,h.f3,h.f4,h.f5,h.fx⟩;rw[hq];exact blk_st h.blk j v
theorem Rm_off(h:Rm base w g q)(b:Bool):Rm base (w.setCell ⟨g,11,none⟩ (.bool b)) g {q with off:=b}:=
 Rm_set h 11 _ _ rfl ⟨rfl,rfl,rfl,rfl,rfl,rfl,rfl,rfl,rfl,rfl,rfl,rfl,rfl,rfl,rfl,rfl,rfl,rfl,rfl⟩
theorem Rm_ep(h:Rm base w g q)(x:Int):Rm base (w.setCell ⟨g,10,none⟩ (.int .i64 x)) g {q with ep:=x}:=
 Rm_set h 10 _ _ rfl ⟨rfl,rfl,rfl,rfl,rfl,rfl,rfl,rfl,rfl,rfl,rfl,rfl,rfl,rfl,rfl,rfl,rfl,rfl,rfl⟩
theorem Rm_cr(h:Rm base w g q){An Au:Option Addr}{n1 n2 d1 d2:Nat}{cl:List (Int×Int)}{cu:List Int}(hn:Nds w w.heap.size An cl)(hu:Ris w w.heap.size Au cu)(fn:Far g q.Ab An (nds cl))(fu:Far g q.Ab Au (ints cu))(e1:n1=cl.length)(e2:n2=cu.length):
  Rm base ((w.setCell ⟨g,8,none⟩ (.slice An n1 d1)).setCell ⟨g,9,none⟩ (.slice Au n2 d2)) g {q with An:=An,Au:=Au,n1:=n1,n2:=n2,d1:=d1,d2:=d2,cl:=cl,cu:=cu}:=by
 have s:=fun {X:Option Addr} {xs:List Value} (hx:Rd w w.heap.size X xs) (e:Far g q.Ab X xs)=>Rd_setg (Rd_setg hx e 8 (.slice An n1 d1)) e 9 (.slice Au n2 d2)
 exact⟨blk_st (blk_st h.blk 8 _) 9 _,own_st (own_st h.row h.blk (by decide) 8 _) (blk_st h.blk 8 _) (by decide) 9 _,h.gb,h.l1,h.l2,h.l3,h.l4,e1,e2,s h.nds h.f1,s h.ris h.f2,s h.smb h.f3,s hn fn,s hu fu,fun i a=>Bm_setg (Bm_setg (h.bm i a) (h.fx i a) 8 _) (h.fx i a) 9 _,h.f1,h.f2,h.f3,fn,fu,h.fx⟩
theorem Rm_book{gb:Nat}(h:Rm base w g q)(hA:q.Ab=some ⟨gb,0,none⟩){i:Nat}(hi:i<q.xs.length){x:Bx}(hx:Bm w x.A x.C x.rl x.b)(fx:FarX g q.Ab x):
  Rm base ((((w.setCell ⟨gb,i*4,none⟩ (.int .i64 x.b.sh)).setCell ⟨gb,i*4+1,none⟩ (.int .i64 x.b.ca)).setCell ⟨gb,i*4+2,none⟩ (.slice x.A x.b.rows.length x.c)).setCell ⟨gb,i*4+3,none⟩ (.slice x.C x.b.op.length x.d)) g {q with xs:=q.xs.set i x}:=by
 obtain⟨sh,wi,ra,ta,A,B,C,nl,al,sl,c,d,f,nd,ac,sy,Ab,nb,cb,xs,An,Au,n1,n2,d1,d2,cl,cu,ep,aa⟩:=q;simp only at hA hi fx;subst hA;obtain⟨K,I,L,O,P,Q,R,S,T,t,v,E,F,G,H,l,m,n,o,p,r⟩:=h;simp only at K I L O P Q R S T t v E F G H l m n o p r;obtain⟨U,g1⟩:=World.ownsRow.stored I (i*4) (.int .i64 x.b.sh);obtain⟨V,g2⟩:=World.ownsRow.stored U (i*4+1) (.int .i64 x.b.ca);obtain⟨W,g3⟩:=World.ownsRow.stored V (i*4+2) (.slice x.A x.b.rows.length x.c);obtain⟨s4,g4⟩:=World.ownsRow.stored W (i*4+3) (.slice x.C x.b.op.length x.d);have k1:=blk_own_grown K I (by decide) g1;have k2:=blk_own_grown k1 U (by decide) g2;have k3:=blk_own_grown k2 V (by decide) g3;have k4:=blk_own_grown k3 W (by decide) g4;have s:=fun {X:Option Addr} {Y:List Value} (hy:Rd w w.heap.size X Y) (a:Far g (some (α gb 0)) X Y)=>Rd_setb (Rd_setb (Rd_setb (Rd_setb hy a (i*4) (ι x.b.sh)) a (i*4+1) (ι x.b.ca)) a (i*4+2) (.slice x.A x.b.rows.length x.c)) a (i*4+3) (.slice x.C x.b.op.length x.d)
 have Z:=fun {y:Bx} (hy:Bm w y.A y.C y.rl y.b) (a:FarX g (some (α gb 0)) y)=>Bm_setb (Bm_setb (Bm_setb (Bm_setb hy a (i*4) (ι x.b.sh)) a (i*4+1) (ι x.b.ca)) a (i*4+2) (.slice x.A x.b.rows.length x.c)) a (i*4+3) (.slice x.C x.b.op.length x.d)
 refine⟨k4,?_,L,O,P,Q,?_,S,T,s t l,s v m,s E n,s F o,s G p,?_,l,m,n,o,p,?_⟩
 ·show World.ownsRow _ _ _ _ _ _ (bxs (xs.set i x));rw[bxs_set _ _ _ hi];exact s4
 ·show nb=(xs.set i x).length;rw[List.length_set];exact R
 ·intro k J;have j:k<xs.length:=by simpa using J
  show Bm _ (gX (xs.set i x) k).A (gX (xs.set i x) k).C (gX (xs.set i x) k).rl (gX (xs.set i x) k).b;rw[gX_set _ _ _ _ hi];by_cases e:k=i
  ·rw[if_pos e];exact Z hx fx
  ·rw[if_neg e];exact Z (H k j) (r k j)
 ·intro k J;have j:k<xs.length:=by simpa using J
  show FarX g _ (gX (xs.set i x) k);rw[gX_set _ _ _ _ hi];by_cases e:k=i
  ·rw[if_pos e];exact fx
  ·rw[if_neg e];exact r k j
theorem Rm_lt(h:Rm base w g q):g<w.heap.size∧ ∀b,q.Ab=some b→b.block<w.heap.size:=
 ⟨h.blk.lt,fun b a=>(World.ownsRow.lt h.row b.block (by rw[a];rfl)).2⟩
theorem Rz_of(h:Rm base w g q)(hz:w.heap.size≤z):Mz z g q:=
 ⟨by have:=h.blk.lt;omega,FarE_of h.nds hz,FarE_of h.ris hz,FarE_of h.smb hz,FarE_of h.cn hz,FarE_of h.cr hz,fun i a=>⟨FarE_of (h.bm i a).r hz,FarE_of (h.bm i a).o hz,fun j e=>FarE_of ((h.bm i a).n j e) hz⟩⟩
theorem Rm_setz{te:TypeId}{cs:Array Value}(h:Rm base w g q)(hm:Mz z g q)(hk:Blk w z te cs)(hne:122≠te)(j:Nat)(v:Value):Rm base (w.setCell ⟨z,j,none⟩ v) g q:=
 ⟨far_st h.blk (fun e=>hm.ne e.symm) v,own_st h.row hk hne j v,h.gb,h.l1,h.l2,h.l3,h.l4,h.l5,h.l6,Rd_setz h.nds hm.z1 j v,Rd_setz h.ris hm.z2 j v,Rd_setz h.smb hm.z3 j v,Rd_setz h.cn hm.z4 j v,Rd_setz h.cr hm.z5 j v,fun i a=>Mdz.Bm_setz (h.bm i a) (hm.zx i a) j v,h.f1,h.f2,h.f3,h.f4,h.f5,h.fx⟩
theorem Rm_push(h:Rm base w g q){x:Bx}(hx:Bm w x.A x.C x.rl x.b)(fx:FarX g q.Ab x){A6:Option Addr}{n6 c6:Nat}(hn:n6=q.nb+1)
  (ho:w'.ownsRow base 122 4 (.slice A6 n6 c6) n6 (bxs q.xs++bxV x))(hg:w.grownBy w' (Value.slice q.Ab q.nb q.cb).ownBlock)(hob:(Value.slice A6 n6 c6).ownBlock=(Value.slice q.Ab q.nb q.cb).ownBlock∨(Value.slice A6 n6 c6).ownBlock=some w.heap.size):
  Rm base (w'.setCell ⟨g,7,none⟩ (.slice A6 n6 c6)) g {q with Ab:=A6,nb:=n6,cb:=c6,xs:=q.xs++[x]}:=by
 have p:=blk_own_grown h.blk h.row (by decide) hg;have s:=fun {X:Option Addr} {ys:List Value} (a:Rd w w.heap.size X ys) (f:Far g q.Ab X ys)=>Rd_setg (Rd_grown a hg (Far_off f)) (Far_push f a hob) 7 (.slice A6 n6 c6)
 have t: ∀(y:Bx),Bm w y.A y.C y.rl y.b→FarX g q.Ab y→Bm (w'.setCell (α g 7) (.slice A6 n6 c6)) y.A y.C y.rl y.b∧FarX g A6 y:=fun y a f=>
  ⟨⟨s a.r f.1,a.e,fun i k=>s (a.n i k) (f.2.2 i k),s a.o f.2.1⟩,⟨Far_push f.1 a.r hob,Far_push f.2.1 a.o hob,fun j v=>Far_push (f.2.2 j v) (a.n j v) hob⟩⟩
 have l: ∀i,i<(q.xs++[x]).length→Bm (w'.setCell (α g 7) (.slice A6 n6 c6)) (gX (q.xs++[x]) i).A (gX (q.xs++[x]) i).C (gX (q.xs++[x]) i).rl (gX (q.xs++[x]) i).b∧FarX g A6 (gX (q.xs++[x]) i):=by
  intro i k;have m:i<q.xs.length+1:=by simpa using k
  rw[gX_snoc _ _ _ m];by_cases e:i=q.xs.length
  ·rw[if_pos e];exact t x hx fx
  ·rw[if_neg e];exact t _ (h.bm i (by omega)) (h.fx i (by omega))
 refine⟨?_,?_,h.gb,h.l1,h.l2,h.l3,?_,h.l5,h.l6,s h.nds h.f1,s h.ris h.f2,s h.smb h.f3,s h.cn h.f4,s h.cr h.f5,fun i k=>(l i k).1,Far_push h.f1 h.nds hob,Far_push h.f2 h.ris hob,Far_push h.f3 h.smb hob,Far_push h.f4 h.cn hob,Far_push h.f5 h.cr hob,fun i k=>(l i k).2⟩
 ·exact blk_st p 7 _
 ·show World.ownsRow _ _ _ _ _ _ (bxs (q.xs++[x]));rw[bxs_snoc];exact own_st ho p (by decide) 7 _
 ·show n6=(q.xs++[x]).length;rw[hn,h.l4];simp
theorem Rm_new{sh wi ra ta:Int}{A1 B1 C1 An Au:Option Addr}{nl al sl c1 d1 f1 n1 n2 dn du:Nat}{nd cl:List (Int×Int)}{ac cu:List Int}{sy:List (Int×Int×Int×Nat)}(hn:Nds w w.heap.size A1 nd)(ha:Ris w w.heap.size B1 ac)(hs:Smb w w.heap.size C1 sy)(hcn:Nds w w.heap.size An cl)(hcu:Ris w w.heap.size Au cu)
  (l1:nl=nd.length)(l2:al=ac.length)(l3:sl=sy.length)(l5:n1=cl.length)(l6:n2=cu.length)(hb:base≤w.heap.size):
  Rm base (w.alloc (.cells #[.int .i64 sh,.int .i64 wi,.int .i64 ra,.int .i64 ta,.slice A1 nl c1,.slice B1 al d1,.slice C1 sl f1,.slice none 0 0,.slice An n1 dn,.slice Au n2 du,.int .i64 0,.bool false] 118)) w.heap.size ⟨sh,wi,ra,ta,A1,B1,C1,nl,al,sl,c1,d1,f1,nd,ac,sy,none,0,0,[],An,Au,n1,n2,dn,du,cl,cu,0,false⟩:=by
 have U:Below w.heap.size w (w.alloc (.cells (vQ sh wi ra ta A1 nl c1 B1 al d1 C1 sl f1 none 0 0 An n1 dn Au n2 du 0 false) 118)):=β w (.cells (vQ sh wi ra ta A1 nl c1 B1 al d1 C1 sl f1 none 0 0 An n1 dn Au n2 du 0 false) 118);have f: ∀{X:Option Addr} {ys:List Value},Rd w w.heap.size X ys→Far w.heap.size none X ys:=fun h=>Far_of h (.inl τ) (fun b hb=>by cases hb)
 exact⟨Blk.fresh _ _ _,World.ownsRow_nil _ _ _ _,hb,l1,l2,l3,rfl,l5,l6,Rd.below' hn U U.size,Rd.below' ha U U.size,Rd.below' hs U U.size,Rd.below' hcn U U.size,Rd.below' hcu U U.size,fun i a=>absurd a (Nat.not_lt_zero _),f hn,f ha,f hs,f hcn,f hcu,fun i a=>absurd a (Nat.not_lt_zero _)⟩
theorem farX_nw{Ab:Option Addr}(hw:Nw B rl A' C' rl')(fx:FarX g Ab ⟨A,C,c,d,rl,b⟩)(hg:g<B)(hA: ∀k,Ab=some k→k.block<B):FarX g Ab ⟨A',C',c',d',rl',b'⟩:=
 ⟨Far_new hg hA hw.1,Far_new hg hA hw.2.1,fun i a=>by
  rcases hw.2.2 i a with h|⟨j,hj,he⟩
  ·exact Far_new hg hA h
  ·show Far g Ab (gC rl' i).A (ints (gC rl' i).r.ns)
   rw[he]
   exact fx.2.2 j hj⟩
theorem fzB_nw(hw:Nw B rl A' C' rl')(fx:FzB z ⟨A,C,c,d,rl,b⟩)(hz:z<B):FzB z ⟨A',C',c',d',rl',b'⟩:=
 ⟨FarE_new hz hw.1,FarE_new hz hw.2.1,fun i a=>by
  rcases hw.2.2 i a with h|⟨j,hj,he⟩
  ·exact FarE_new hz h
  ·show FarE z (gC rl' i).A (ints (gC rl' i).r.ns)
   rw[he]
   exact fx.2.2 j hj⟩
def Cq(q:Mq):Prop:= ∀i,i<q.xs.length→(gX q.xs i).b.op.length≤(gX q.xs i).d
theorem Cq_set(h:Cq q)(i:Nat)(x:Bx)(hi:i<q.xs.length)(hx:x.b.op.length≤x.d): ∀k,k<(q.xs.set i x).length→(gX (q.xs.set i x) k).b.op.length≤(gX (q.xs.set i x) k).d:=by
 intro k f;have a:k<q.xs.length:=by simpa using f
 rw[gX_set _ _ _ _ hi];by_cases e:k=i
 ·rw[if_pos e];exact hx
 ·rw[if_neg e];exact h k a
end Rmp
namespace Rmr
open Lax Res Lat Rfs Rmp
open Mdp hiding Mm Mm_below Mm_set Mm_off Mm_ep Mm_cr Mm_book Mm_lt
open Mdz hiding Mz_of Mm_setz
open Mds hiding MadeDo madeDo_no
open Rbc (wpL_two)
variable {xs ys:List Value} {g:Nat} {X:Option Addr}
theorem far_same{Ab:Option Addr}(h:Far g Ab X xs)(hne:xs≠[]):Far g Ab X ys:= .inr (h.resolve_left hne)
theorem farE_same{z:Nat}(h:FarE z X xs)(hne:xs≠[]):FarE z X ys:= .inr (h.resolve_left hne)
theorem nds_ne{l:List (Int×Int)}(h:1≤l.length):nds l≠[]:=by
 intro e;have a:=nds_len l;rw[e]at a;simp at a;omega
theorem ints_ne{l:List Int}(h:1≤l.length):ints l≠[]:=by
 intro e;have a:(ints l).length=l.length:=by simp[ints]
 rw[e]at a;simp at a;omega
def MadeDr(base g:Nat)(q0:Mq)(p:Pm)(code id:Int)(outs:List (Int×Int))(w:World)(e:Ending)(w':World):Prop:=
 ∃q Ao no co,e= .returned (.tuple #[.agg #[.int .i64 code,.int .i64 id],.slice Ao no co])∧no=outs.length∧Nds w' w'.heap.size Ao outs∧(∀a,Ao=some a→w.heap.size≤a.block)∧Rm base w' g q∧plO q=p∧q.Ab=q0.Ab∧Kp w w' g q0.Ab∧(∀z,z<w.heap.size→Mz z g q0→Mz z g q)∧Cq q
theorem madeDr_no{base:Nat}{w w':World}{q q0:Mq}{p:Pm}{code id:Int}(h:Rm base w' g q)(hp:plO q=p)(hA:q.Ab=q0.Ab)(hk:Kp w w' g q0.Ab)(hz: ∀z,z<w.heap.size→Mz z g q0→Mz z g q)(hc:Cq q):MadeDr base g q0 p code id [] w (.returned (.tuple #[.agg #[.int .i64 code,.int .i64 id],.slice none 0 0])) w':=
 ⟨q,none,0,0,rfl,rfl,.inl rfl,fun a b=>(by cases b),h,hp,hA,hk,hz,hc⟩
def MadeRr(base g:Nat)(q:Mq)(a:Nat)(x:Int)(w:World)(e:Ending)(w':World):Prop:=
 e= .returned (.tuple #[])∧ ∃A5 A6 d5 d6 nU,Rm base w' g {q with An:=A5,Au:=A6,n2:=nU,d1:=d5,d2:=d6,cu:=Cpl.relU q.cl q.cu (gI q.ac a) x}∧(A5=q.An∨ ∀b,A5=some b→w.heap.size≤b.block)∧(A6=q.Au∨ ∀b,A6=some b→w.heap.size≤b.block)∧Kp w w' g q.Ab
theorem rmrelease_any(base g aN:Nat)(q:Mq)(x:Int)(w:World)(h:Hid (Rm base w g q))(hg:GoodSt q.cl q.cu)(hwa:WfI q.ac)(ha:aN<q.al)(hal:q.al≤100)(hx: -9223372036854775808≤x∧x≤9223372036854775807):
  Calls Tryz.prog 76 #[.pointer (some ⟨g,0,none⟩),.int .i64 (aN:Int),.int .i64 x] w (MadeRr base g q aN x w):=by
 obtain⟨sh,wi,ra,ta,A,B,C,nl,al,sl,c,d,f,nd,ac,sy,Ab,nb,cb,xs,Z,Au,s,n2,d1,d2,cl,cu,ep,aa⟩:=q;simp only at hg hwa ha hal;have HG:=κ hg;have L2:=κ (ξ h.o.l2);have L5:=κ (ξ h.o.l5);have L6:=κ (ξ h.o.l6);obtain⟨b5,o5,ag,Q,ah⟩:=Ris.at (i:=0) h.o.ris (by show 0<ac.length;have:=L2.o;omega);simp only at ag;subst ag;have aB:=κ Q;have ai:=ah aN (by show aN<ac.length;rw[←L2.o];exact ha);have t:Hid (∀W,Below w.heap.size w W→W.cell? (α b5 (o5+aN))=some (ι (gI ac aN))):=fun W hb=>(hb.cell (p:=(α b5 (o5+aN))) Q).trans ai
 have ab:=hwa aN (by rw[←L2.o];exact ha);have RS:=fun W hn hu=>rrelease_fresh Z Au d1 d2 cl cu (gI ac aN) x W hn hu hg ab hx.1 hx.2
 obtain⟨UU,ad⟩:=ν (Cpl.relU cl cu (gI ac aN) x);obtain⟨bb,aj⟩:=ν (Cpl.relF cl cu (gI ac aN) x);obtain⟨H,ae⟩:=ν UU.length;unfold MadeRelR at RS;rw[←ad,←aj,←L5.o,←L6.o]at RS;simp only[←ae]at RS;have ar:=κ ad;have au:=κ ae;obtain⟨av,af⟩:=ν (gI ac aN);rw[←af]at RS t ab;have aC:=κ af;have aD:decide ((aN:Int)<(al:Int))=true:=by simp;omega
 clear ad aj ae af ab ai ah Q hwa hg;have ak:=κ ((Rm_lt h.o).1);have am:=κ (ξ ((Rm_lt h.o).2));have V:Below w.heap.size w w.drew:=Below.drew ψ;have M0:=κ (Rm_below h.o V);let I:World→Prop:=fun w'=>w'.cell? (α g 8)=some (.slice Z s d1)∧w'.cell? (α g 9)=some (.slice Au n2 d2)∧w'.cell? (α g 5)=some (.slice (some (α b5 o5)) al d)∧w'.cell? (α b5 (o5+aN))=some (ι av)
 have J:Hid (I (w.drew)):=⟨M0.o.blk.cell 8,M0.o.blk.cell 9,M0.o.blk.cell 5,t.o _ V⟩;have F:=κ V;clear V
 go_enter Tryz.func76,Tryz.ntmps76
 go_upto_region 0 with fail
 go_cut [6] (fun sS wx=> ∃(gS:Nat) (j k:Option Addr) (l y:Nat),sS= .pointer (some (α gS 0))∧Hid (Blk wx gS 114 (vS j s l k H y))∧Hid (Nds wx wx.heap.size j cl)∧Hid (Ris wx wx.heap.size k UU)∧Hid (j=Z∨ ∀a,j=some a→w.heap.size≤a.block)∧Hid (k=Au∨ ∀a,k=some a→w.heap.size≤a.block)∧Hid (Below w.heap.size w wx))
 case first=>
  refine Ω I [18] ?_;refine jA 0 J.o ?_;refine jA 1 J.o ?_;refine jA 2 J.o ?_;refine jB 3 J.o ?_;refine jA 4 J.o ?_;refine jA 5 J.o ?_;refine jA 6 J.o ?_;refine jA 7 J.o ?_;refine jB 8 J.o ?_;refine jA 9 J.o ?_;refine jA 10 J.o ?_;refine jB 11 J.o ?_;refine jA 12 J.o ?_;refine wpL_two (m:=13) (n:=17) (by kernel_rfl) rfl rfl ?_ ?_
  ·intro R E;go_simp;refine(RS _ (κ (Rd.below' h.o.cn F.o F.o.size)) (κ (Rd.below' h.o.cr F.o F.o.size))).mono ?_;rintro e K ⟨j,l,k,y,rfl,S,T,L,O,P⟩;have r:=κ (CrdB.below_step F.o L);have M4:=κ (Rm_below h.o r.o);have z:Hid (I K):=⟨M4.o.blk.cell 8,M4.o.blk.cell 9,M4.o.blk.cell 5,t.o _ r.o⟩;have N5:=κ S;have R5:=κ T;have F5:Hid (j=Z∨ ∀a,j=some a→w.heap.size≤a.block):=O;have F6:Hid (k=Au∨ ∀a,k=some a→w.heap.size≤a.block):=P;have aE:=κ r.o.size;clear S T L O P
   go_wp2_with fail
   refine E.out _ _ z.o ?_;clear E R;refine jP ?_;refine jA 14 z.o ?_;refine jA 15 z.o ?_;refine jA 16 z.o ?_;have an:=κ (r.o.alloc r.o.size (.cells (vS none 0 0 none 0 0) 114));have Mb:=κ (Rm_below h.o an.o);have aw:Hid (I (K.alloc (.cells (vS none 0 0 none 0 0) 114))):=⟨Mb.o.blk.cell 8,Mb.o.blk.cell 9,Mb.o.blk.cell 5,t.o _ an.o⟩;refine jN 17 fun R E=>?_
   go_simp;refine E.out _ _ aw.o ?_;clear E R;refine jP ?_;refine jV 18 fun R E=>?_
   go_simp;refine E.out _ _ ?_;clear E R;refine jP ?_;refine jZ 19 ?_;refine Δ ?_;have hT:=κ (Blk.fresh K 114 (vS j s l k H y));have hU:=β K (.cells (vS j s l k H y) 114)
   go_wp2_with fail
   go_meet;exact⟨K.heap.size,j,k,l,y,rfl,hT,Rd.below' N5.o hU hU.size,Rd.below' R5.o hU hU.size,F5,F6,CrdB.below_step r.o hU⟩
  ·intro R E;have G:=κ (F.o.alloc F.o.size (.cells (vS none 0 0 none 0 0) 114));have Ma:=κ (Rm_below h.o G.o);have ax:Hid (I (w.drew.alloc (.cells (vS none 0 0 none 0 0) 114))):=⟨Ma.o.blk.cell 8,Ma.o.blk.cell 9,Ma.o.blk.cell 5,t.o _ G.o⟩;have Sa:Hid (Blk (w.drew.alloc (.cells (vS none 0 0 none 0 0) 114)) w.heap.size 114 (vS none 0 0 none 0 0)):=Blk.fresh w.drew _ _;go_simp;refine E.out _ _ ax.o ?_;clear E R;refine jP ?_;refine jN 13 fun R E=>?_
   go_simp;refine(RS _ (κ (Rd.below' h.o.cn G.o G.o.size)) (κ (Rd.below' h.o.cr G.o G.o.size))).mono ?_;rintro e K ⟨j,l,k,y,rfl,S,T,L,O,P⟩;have r:=κ (CrdB.below_step G.o L);have M4:=κ (Rm_below h.o r.o);have z:Hid (I K):=⟨M4.o.blk.cell 8,M4.o.blk.cell 9,M4.o.blk.cell 5,t.o _ r.o⟩;have N5:=κ S;have R5:=κ T;have S4:=κ (Blk.below' Sa.o L);have h9:(w.drew.alloc (.cells (vS none 0 0 none 0 0) 114)).heap.size=w.heap.size+1:=World.size_alloc _ _;have G5:Hid (j=Z∨ ∀a,j=some a→w.heap.size+1≤a.block):=by rw[h9]at O;exact O
   have G6:Hid (k=Au∨ ∀a,k=some a→w.heap.size+1≤a.block):=by rw[h9]at P;exact P
   clear S T L O P h9;obtain⟨p0,p1,p2,p3⟩:=q2b S4.o;have p4:=χ ((blk_st S4.o 0 (.slice j s l)).cell 1);have p5:=(blk_st S4.o 0 (.slice j s l)).thaw 1
   go_wp2_with fail
   refine E.out _ _ z.o ?_;clear E R;refine jP ?_;refine jA 14 z.o ?_;refine jA 15 z.o ?_;refine jA 16 z.o ?_;refine jV 18 fun R E=>?_
   go_simp;refine E.out _ _ ?_;clear E R;refine jP ?_;refine jZ 19 ?_;refine Δ ?_
   have U: ∀{X0 X:Option Addr} {xs ys:List Value},Rd w w.heap.size X0 xs→xs≠[]→(X=X0∨ ∀a,X=some a→w.heap.size+1≤a.block)→ ∀a,X=some a→a.block≠w.heap.size:=by
    intro X0 X xs ys hr ay Y a ha;rcases Y with Y|Y
    ·obtain⟨b,o,hA,hb,_⟩:=Rd.at hr ay;rw[Y,hA]at ha;have e:=Option.some.inj ha;rw[←e];show b≠_;omega
    ·have:=Y a ha;omega
   have e5:=U (ys:=[]) h.o.cn (nds_ne HG.o.one) G5.o;have e6:=U (ys:=[]) h.o.cr (ints_ne (by show 1≤cu.length;rw[HG.o.len];exact HG.o.one)) G6.o;have hT:Hid (Blk (st2 K w.heap.size (.slice j s l) (.slice k H y)) w.heap.size 114 (vS j s l k H y)):=st2_blk S4.o;have hN:Hid (Nds (st2 K w.heap.size (.slice j s l) (.slice k H y)) (st2 K w.heap.size (.slice j s l) (.slice k H y)).heap.size j cl):=Rd.keep' (Rd.keep' N5.o (Nat.lt_succ_self _) e5 _) (Nat.lt_succ_self _) e5 _;have hR:Hid (Ris (st2 K w.heap.size (.slice j s l) (.slice k H y)) (st2 K w.heap.size (.slice j s l) (.slice k H y)).heap.size k UU):=Rd.keep' (Rd.keep' R5.o (Nat.lt_succ_self _) e6 _) (Nat.lt_succ_self _) e6 _;have hB:Hid (Below w.heap.size w (st2 K w.heap.size (.slice j s l) (.slice k H y))):=st2_below r.o τ;have F5:Hid (j=Z∨ ∀a,j=some a→w.heap.size≤a.block):=G5.o.imp id (fun Y a ha=>by have:=Y a ha;omega);have F6:Hid (k=Au∨ ∀a,k=some a→w.heap.size≤a.block):=G6.o.imp id (fun Y a ha=>by have:=Y a ha;omega);clear p0 p1 p2 p3 p4 p5 U e5 e6
   go_wp2_with fail
   go_meet;exact⟨w.heap.size,j,k,l,y,rfl,hT,hN,hR,F5,F6,hB⟩
 case rest=>
  obtain⟨gS,j,k,l,y,rfl,S6,N6,R6,F5,F6,ao⟩:=hcut
  rename World=>w6
  have M6:=κ (Rm_below h.o ao.o);have K6:Hid (Blk w6 g 118 (vQ sh wi ra ta A nl c (some (α b5 o5)) al d C sl f Ab nb cb Z s d1 Au n2 d2 ep aa)):=M6.o.blk
  have az:Far g Ab j (nds cl):=by
   rcases F5.o with e|e
   ·rw[e];exact h.o.f4
   ·exact Far_new ak.o am.o e
  have aA:Far g Ab k (ints UU):=by
   rcases F6.o with e|e
   ·rw[e];exact far_same h.o.f5 (ints_ne (by show 1≤cu.length;rw[HG.o.len];exact HG.o.one))
   ·exact Far_new ak.o am.o e
  have ap:Rm base ((w6.setCell (α g 8) (.slice j s l)).setCell (α g 9) (.slice k H y)) g ⟨sh,wi,ra,ta,A,some (α b5 o5),C,nl,al,sl,c,d,f,nd,ac,sy,Ab,nb,cb,xs,j,k,s,H,l,y,cl,UU,ep,aa⟩:=Rm_cr M6.o N6.o R6.o az aA L5.o au.o
  have aq:MadeRr base g ⟨sh,wi,ra,ta,A,some (α b5 o5),C,nl,al,sl,c,d,f,nd,ac,sy,Ab,nb,cb,xs,Z,Au,s,n2,d1,d2,cl,cu,ep,aa⟩ aN x w (.returned (.tuple #[])) ((w6.setCell (α g 8) (.slice j s l)).setCell (α g 9) (.slice k H y)):=
   ⟨rfl,j,k,l,y,H,by have h2:=ap;rw[ar.o]at h2;exact h2,F5.o,F6.o,Kp_setg (Kp_setg (Kp_of_below ao.o) 8 _) 9 _⟩
  have HF:=κ aq;clear aq ap;obtain⟨k0,k1,k2,k3,k4,k5,k6,k7,k8,k9,aF,aG,f0,f1,f2,f3,f4,f5,f6,f7,f8,f9,aH,aI⟩:=q12_of K6.o;obtain⟨s0,s1,s2,s3⟩:=q2b S6.o;have x9:=χ ((blk_st K6.o 8 (.slice j s l)).cell 9);have y9:=(blk_st K6.o 8 (.slice j s l)).thaw 9
  go_wp2_with fail
  exact bodyPost_end (v:= .tuple #[]) (by simp[results,Tryz.results76,go_sem]) rfl HF.o
end Rmr
namespace Rms
open Lax Bkf Bkg Bkq Rba Rbc Lat Rmp Rmr Mdn Mdo Mdk
open Mdp hiding Mm Mm_below Mm_set Mm_off Mm_ep Mm_cr Mm_book Mm_lt
open Mdz hiding Mz_of Mm_setz
open Mds hiding MadeDo madeDo_no
open Rul1 hiding below_step
open Bkw hiding infoN Bo_below Bo_grown
open Rbf (rsweep_any MadeRs)
open Mdy hiding infoOut
theorem infoOut:(Tryz.prog.info? 71).map (fun i=>(i.zero,i.size,i.bytes))=some (some (.agg #[.int .i64 0,.int .i64 0]),2,16):=by kernel_rfl
theorem rmsweep_any(base g m:Nat)(q:Mq)(i x:Int)(w:World)(h:Hid (Rm base w g q))(hv:Hid (Vq m q))(hm:m≤900)(hcq:Hid (Cq q))(hi:inI i)(hx0: -9223372036854775808≤x)(hx1:x≤9223372036854775807):
  Calls Tryz.prog 41 #[.pointer (some ⟨g,0,none⟩),.int .i64 i,.int .i64 x] w (MadeDr base g q (swpF (plO q) i x).1 (swpF (plO q) i x).2.1 (swpF (plO q) i x).2.2.1 (swpF (plO q) i x).2.2.2 w):=by
 obtain⟨sh,wi,ra,ta,A,B,C,T,U,V,c,d,f,nd,ac,sy,Ab,y,L,H,An,Au,W,Y,d1,d2,cl,cu,ep,t⟩:=q;obtain⟨v1,v2,bE,v3,v4,v5,v6,v7,v8,v9,a8⟩:=hv.o;obtain⟨l1,l2,l3,l4,l5,l6⟩:=(⟨h.o.l1,h.o.l2,h.o.l3,h.o.l4,h.o.l5,h.o.l6⟩:T=nd.length∧U=ac.length∧V=sy.length∧y=H.length∧W=cl.length∧Y=cu.length);have L1:=κ l1;have L2:=κ l2;have L3:=κ l3;have L4:=κ l4;have L5:=κ l5;have L6:=κ l6;have V4:=κ v4;have V5:=κ v5;have V7:=κ v7;have V9:=κ v9;have b5:=κ a8;simp only at v1 v2 bE v3 v6 v8;obtain⟨s,a9⟩:=own_at h.o.row (by show 0<y;simp only at v7;omega);simp only at a9;subst a9;have b6:y≤1000∧1≤y:=by simp only at v7;omega
 have aA:=κ hcq.o;clear l1 l2 l3 l4 l5 l6 v4 v5 v7 v9 a8;have U0:=κ (β w (.cells (vI 0 0) 64));have Z0:=κ (Blk.fresh w 64 (vI 0 0));have M0:=κ (Rm_below h.o U0.o);have MZ:=κ (Rz_of h.o τ)
 go_enter Tryz.func41,Tryz.ntmps41
 go_upto_region 1 with fail
 generalize ba:w.heap.size=gZ at Z0 MZ ⊢;have b7:=κ ba;have aa:Hid (w.heap.size≤gZ):=by show _≤_;omega
 clear ba;generalize (w.alloc (.cells (vI 0 0) 64))=K at Z0 U0 M0 ⊢;have K0:Hid (Blk K g 118 (vQ sh wi ra ta A T c B U d C V f (some (α s 0)) y L An W d1 Au Y d2 ep t)):=M0.o.blk;obtain⟨k0,k1,k2,k3,k4,k5,k6,k7,k8,k9,aB,aC,f0,f1,f2,f3,f4,f5,f6,f7,f8,f9,aD,aE⟩:=q12_of K0.o;have aF:Hid (y=(plO ⟨sh,wi,ra,ta,A,B,C,T,U,V,c,d,f,nd,ac,sy,some (α s 0),y,L,H,An,Au,W,Y,d1,d2,cl,cu,ep,t⟩).bs.length):=by show y=(H.map Bx.b).length;rw[List.length_map];exact L4.o
 have Z:hasF y i=(decide (0≤i)&&decide (i<(y:Int))):=rfl;by_cases hlo:i<0
 case pos=>
  have t1:decide (i<0)=true:=by simp[hlo]
  have aG:hasF y i=false:=by rw[Z];simp;omega
  clear Z
  go_upto_region 2 with fail
  clear k0 k1 k2 k3 k4 k5 k6 k7 k8 k9 aB aC f0 f1 f2 f3 f4 f5 f6 f7 f8 f9 aD aE K0;have aH:Hid (swpF (plO ⟨sh,wi,ra,ta,A,B,C,T,U,V,c,d,f,nd,ac,sy,some (α s 0),y,L,H,An,Au,W,Y,d1,d2,cl,cu,ep,t⟩) i x=((plO ⟨sh,wi,ra,ta,A,B,C,T,U,V,c,d,f,nd,ac,sy,some (α s 0),y,L,H,An,Au,W,Y,d1,d2,cl,cu,ep,t⟩),(1,0,[]))):=swp_no aF.o aG;have MR:=κ (Rm_below M0.o (κ (Below.refl K.heap.size K)).o);have ZR:=κ (Blk.below' Z0.o (κ (Below.refl K.heap.size K)).o);have UR:Hid (Kp w K g (some (α s 0))):=Kp_of_below (CrdB.below_step U0.o (κ (Below.refl K.heap.size K)).o);obtain⟨z0,z1,z2,z3⟩:=q2b ZR.o;have zx:=χ ((blk_st ZR.o 0 (ι 1)).cell 1);have F3:Blk (st2 K gZ (ι 1) (ι 0)) gZ 64 (vI 1 0):=st2_blk ZR.o
  have O:MadeDr base g ⟨sh,wi,ra,ta,A,B,C,T,U,V,c,d,f,nd,ac,sy,some (α s 0),y,L,H,An,Au,W,Y,d1,d2,cl,cu,ep,t⟩ (plO ⟨sh,wi,ra,ta,A,B,C,T,U,V,c,d,f,nd,ac,sy,some (α s 0),y,L,H,An,Au,W,Y,d1,d2,cl,cu,ep,t⟩) 1 0 [] w (.returned (.tuple #[.agg (vI 1 0),.slice none 0 0])) (st2 K gZ (ι 1) (ι 0)):=by
   unfold st2;refine madeDr_no (q:=⟨sh,wi,ra,ta,A,B,C,T,U,V,c,d,f,nd,ac,sy,some (α s 0),y,L,H,An,Au,W,Y,d1,d2,cl,cu,ep,t⟩) (Rm_setz (Rm_setz MR.o MZ.o ZR.o (by decide) 0 _) MZ.o (blk_st ZR.o 0 _) (by decide) 1 _) rfl rfl ?_ (fun z _ h=>Mz_same h) aA.o;exact Kp_past (Kp_past UR.o aa.o 0 _) aa.o 1 _
  have HF:=κ O;clear O
  go_wp2_with fail
  obtain⟨e0,e1,_,_⟩:=q2b F3;clear F3;unfold st2 at e0 e1 HF;exact bodyPost_ret (v:= .tuple #[.agg #[ι 1,ι 0],.slice none 0 0]) (by simp[results,Tryz.results41,go_sem,e0,e1]) rfl (by first|exact HF.o|(rw[aH.o];exact HF.o))
 have t1:decide (i<0)=false:=by simp only[decide_eq_false_iff_not];exact hlo
 by_cases hhi:i<(y:Int)
 case neg=>
  have t2:decide ((y:Int)≤i)=true:=by simp;omega
  have aG:hasF y i=false:=by rw[Z];simp;omega
  clear Z
  go_upto_region 2 with fail
  clear k0 k1 k2 k3 k4 k5 k6 k7 k8 k9 aB aC f0 f1 f2 f3 f4 f5 f6 f7 f8 f9 aD aE K0;have aH:Hid (swpF (plO ⟨sh,wi,ra,ta,A,B,C,T,U,V,c,d,f,nd,ac,sy,some (α s 0),y,L,H,An,Au,W,Y,d1,d2,cl,cu,ep,t⟩) i x=((plO ⟨sh,wi,ra,ta,A,B,C,T,U,V,c,d,f,nd,ac,sy,some (α s 0),y,L,H,An,Au,W,Y,d1,d2,cl,cu,ep,t⟩),(1,0,[]))):=swp_no aF.o aG;have MR:=κ (Rm_below M0.o (κ (Below.refl K.heap.size K)).o);have ZR:=κ (Blk.below' Z0.o (κ (Below.refl K.heap.size K)).o);have UR:Hid (Kp w K g (some (α s 0))):=Kp_of_below (CrdB.below_step U0.o (κ (Below.refl K.heap.size K)).o);obtain⟨z0,z1,z2,z3⟩:=q2b ZR.o;have zx:=χ ((blk_st ZR.o 0 (ι 1)).cell 1);have F3:Blk (st2 K gZ (ι 1) (ι 0)) gZ 64 (vI 1 0):=st2_blk ZR.o
  have O:MadeDr base g ⟨sh,wi,ra,ta,A,B,C,T,U,V,c,d,f,nd,ac,sy,some (α s 0),y,L,H,An,Au,W,Y,d1,d2,cl,cu,ep,t⟩ (plO ⟨sh,wi,ra,ta,A,B,C,T,U,V,c,d,f,nd,ac,sy,some (α s 0),y,L,H,An,Au,W,Y,d1,d2,cl,cu,ep,t⟩) 1 0 [] w (.returned (.tuple #[.agg (vI 1 0),.slice none 0 0])) (st2 K gZ (ι 1) (ι 0)):=by
   unfold st2;refine madeDr_no (q:=⟨sh,wi,ra,ta,A,B,C,T,U,V,c,d,f,nd,ac,sy,some (α s 0),y,L,H,An,Au,W,Y,d1,d2,cl,cu,ep,t⟩) (Rm_setz (Rm_setz MR.o MZ.o ZR.o (by decide) 0 _) MZ.o (blk_st ZR.o 0 _) (by decide) 1 _) rfl rfl ?_ (fun z _ h=>Mz_same h) aA.o;exact Kp_past (Kp_past UR.o aa.o 0 _) aa.o 1 _
  have HF:=κ O;clear O
  go_wp2_with fail
  obtain⟨e0,e1,_,_⟩:=q2b F3;clear F3;unfold st2 at e0 e1 HF;exact bodyPost_ret (v:= .tuple #[.agg #[ι 1,ι 0],.slice none 0 0]) (by simp[results,Tryz.results41,go_sem,e0,e1]) rfl (by first|exact HF.o|(rw[aH.o];exact HF.o))
 case pos=>
  have t2:decide ((y:Int)≤i)=false:=by simp only[decide_eq_false_iff_not];omega
  have hh:hasF y i=true:=by rw[Z];simp;omega
  clear Z;obtain⟨l,bF⟩: ∃k:Nat,i=k:=⟨i.toNat,by omega⟩;subst bF;have bG:l<y:=by omega
  have E:Hid (l<H.length):=by show _<_;rw[←L4.o];exact bG
  have af:=own_room M0.o.row;have c0:=af.2.2.2.2.2 (l*4) _ (by have:=bxs_get H l 0 E.o (by decide);exact this);have c1:=af.2.2.2.2.2 (l*4+1) _ (by have:=bxs_get H l 1 E.o (by decide);exact this);have c2:=af.2.2.2.2.2 (l*4+2) _ (by have:=bxs_get H l 2 E.o (by decide);exact this);have c3:=af.2.2.2.2.2 (l*4+3) _ (by have:=bxs_get H l 3 E.o (by decide);exact this);clear af;have ao:=κ (M0.o.bm l E.o);have VB:=κ (V9.o l E.o)
  have aI:Hid (gB (plO ⟨sh,wi,ra,ta,A,B,C,T,U,V,c,d,f,nd,ac,sy,some (α s 0),y,L,H,An,Au,W,Y,d1,d2,cl,cu,ep,t⟩).bs l=(gX H l).b):=by
   show(H.map Bx.b).getD l bk0=_;have h1:=E.o;simp[gX,h1]
  obtain⟨X,hX⟩:=ν (gX H l);rw[←hX]at aI;simp only at ao VB;rw[←hX]at c0 c1 c2 c3 ao VB;have HX:=κ hX;clear hX;obtain⟨XA,XC,xc,xd,ab,xb⟩:=X;obtain⟨bb,aJ⟩:=ν xb.sh;obtain⟨bc,aK⟩:=ν xb.ca;obtain⟨bH,aL⟩:=ν xb.rows.length;obtain⟨bI,aM⟩:=ν xb.op.length;simp only[bxV,List.getElem?_cons_zero,List.getElem?_cons_succ]at c0 c1 c2 c3;have aN:Hid (bb=xb.sh∧bc=xb.ca):=⟨aJ,aK⟩;have aO:=κ aL;have aP:=κ aM;simp only at VB ao aI;have aQ:=κ (VB.o.1.few (by omega));rw[←aJ]at c0;rw[←aK]at c1;rw[←aL]at c2;rw[←aM]at c3;clear aJ aK aL aM;have b8:decide ((l:Int)<(y:Int))=true:=by simp;omega
  have CX:=rsweep_any bb bc XA XC bH bI xc xd ab xb x K aN aO aP ao (by rw[aO.o];exact aQ.o.rl) (by rw[aP.o];exact aQ.o.ol);have bd:=κ (swp_yes (ep:=x) aF.o hh aI.o);obtain⟨NB,aR⟩:=ν (sweepF xb x);obtain⟨F,ap⟩:=ν (swI x xb.op);obtain⟨nI,aq⟩:=ν F.length
  have cc:nI≤1000:=by
   rw[aq,ap];have h1:=swI_le x xb.op;have h2:=aQ.o.ol;omega
  obtain⟨G,aS⟩:=ν NB.sh;obtain⟨I,aT⟩:=ν NB.ca;obtain⟨J,aU⟩:=ν NB.rows.length;obtain⟨Q,aV⟩:=ν NB.op.length;unfold MadeRs at CX;rw[←aR,←ap]at CX;rw[←aR,←ap]at bd
  have be: ∀A7 C7 P S,bkA A7 C7 P S NB= .agg (vB G I A7 J P C7 Q S):=by
   intro A7 C7 P S;unfold bkA;rw[aS,aT,aU,aV]
  simp only[be,←aq]at CX;have ar:=κ aq;have au:Hid (G=NB.sh∧I=NB.ca∧J=NB.rows.length∧Q=NB.op.length):=⟨aS,aT,aU,aV⟩;clear aR ap aq aS aT aU aV be
  go_upto_region 3 with fail
  go_wp2_with fail
  refine CX.mono ?_;rintro e w2 ⟨A7,C7,P,S,Ai,ci,rfl,aW,bf,bg,bh,bi,aX⟩;obtain⟨R,aY⟩:=ν ab;have aZ:Hid (Nw K.heap.size ab A7 C7 R):=by rw[aY];exact bf
  have bJ:=κ bg;rw[←aY]at aW;clear aY;have U3:=β w2 (.cells (vB G I A7 J P C7 Q S) 122);have V3:=κ (Blk.fresh w2 122 (vB G I A7 J P C7 Q S));have bj:=κ (CrdB.below_step aX U3);have N7:=κ (aW.below U3);have I7:=η bh U3;have bK:=κ bi;have bk:=κ aX.size;clear aW bf bg aX bh bi U3 CX
  go_upto_region 4 with fail
  clear k0 k1 k2 k3 k4 k5 k6 k7 k8 k9 aB aC f0 f1 f2 f3 f4 f5 f6 f7 f8 f9 aD aE c0 c1 c2 c3 K0;obtain⟨gV,av⟩:=ν w2.heap.size;have V7:=κ (ζ av V3.o);have bk:Hid (K.heap.size≤gV):=by rw[av];exact bk.o
  simp only[←av];clear av V3;generalize w2.alloc (.cells (vB G I A7 J P C7 Q S) 122)=w3 at bj N7 V7 I7 ⊢;have bL:Hid (K.heap.size≤K.heap.size):=τ;have aw:Hid (Far g (some (α s 0)) Ai (ints F)):=Far_new (base:=K.heap.size) (Rm_lt M0.o).1 (Rm_lt M0.o).2 bK.o;have a0:Hid (Ris ((((w3.drew.setCell (α s (l*4)) (ι G)).setCell (α s (l*4+1)) (ι I)).setCell (α s (l*4+2)) (.slice A7 J P)).setCell (α s (l*4+3)) (.slice C7 Q S)) ((((w3.drew.setCell (α s (l*4)) (ι G)).setCell (α s (l*4+1)) (ι I)).setCell (α s (l*4+2)) (.slice A7 J P)).setCell (α s (l*4+3)) (.slice C7 Q S)).heap.size Ai F):=Rd_setb (Rd_setb (Rd_setb (Rd_setb (show Ris w3.drew w3.drew.heap.size Ai F from I7.o) aw.o _ _) aw.o _ _) aw.o _ _) aw.o _ _;have ag:=κ (Below.drew bj.o);have Md:=κ (Rm_below M0.o ag.o);have ad:=κ (ε V7.o);have a1:=κ (Rm_lt M0.o);have cd:=κ (ξ (a1.o.2 (α s 0) rfl));have ax:=κ bL.o;have ah:=own_room Md.o.row;have Z:=ah.2.2.2.2.2 (l*4) _ (by have:=bxs_get H l 0 E.o (by decide);rw[←HX.o]at this;exact this);have ai:=ah.2.2.2.2.2 (l*4+1) _ (by have:=bxs_get H l 1 E.o (by decide);rw[←HX.o]at this;exact this);have aj:=ah.2.2.2.2.2 (l*4+2) _ (by have:=bxs_get H l 2 E.o (by decide);rw[←HX.o]at this;exact this);have ak:=ah.2.2.2.2.2 (l*4+3) _ (by have:=bxs_get H l 3 E.o (by decide);rw[←HX.o]at this;exact this);simp only[bxV,List.getElem?_cons_zero,List.getElem?_cons_succ]at Z ai aj ak;rw[←aN.o.1]at Z;rw[←aN.o.2]at ai;rw[←aO.o]at aj;rw[←aP.o]at ak;clear ah;have ae:=own_room Md.o.row;have bM:=ξ ae.2.2.1;have bl:=(ae.2.2.2.2.1 (l*4) (show l*4<L*4 by omega)).2;have a2:=(ae.2.2.2.2.1 (l*4+1) (show l*4+1<L*4 by omega)).2;have a3:=(ae.2.2.2.2.1 (l*4+2) (show l*4+2<L*4 by omega)).2;have a4:=(ae.2.2.2.2.1 (l*4+3) (show l*4+3<L*4 by omega)).2;clear ae bM;have bn:=ω (α s (l*4)) (ι G) ai;have bo:=φ (α s (l*4)) (ι G) a2;have bp:=ω (α s (l*4+1)) (ι I) (ω (α s (l*4)) (ι G) aj);have bq:=φ (α s (l*4+1)) (ι I) (φ (α s (l*4)) (ι G) a3);have br:=ω (α s (l*4+2)) (.slice A7 J P) (ω (α s (l*4+1)) (ι I) (ω (α s (l*4)) (ι G) ak));have bt:=φ (α s (l*4+2)) (.slice A7 J P) (φ (α s (l*4+1)) (ι I) (φ (α s (l*4)) (ι G) a4));let bu:World→Prop:=fun w'=>w'.cell? (α g 7)=some (.slice (some (α s 0)) y L)∧w'.cell? (α gV 0)=some (ι G)∧w'.cell? (α gV 1)=some (ι I)∧w'.cell? (α gV 2)=some (.slice A7 J P)∧w'.cell? (α gV 3)=some (.slice C7 Q S)
  have HT:Hid (bu (w3.drew)):=⟨Md.o.blk.cell 7,ad.o.cell 0,ad.o.cell 1,ad.o.cell 2,ad.o.cell 3⟩
  have M9:Hid (Rm base ((((w3.drew.setCell (α s (l*4)) (ι G)).setCell (α s (l*4+1)) (ι I)).setCell (α s (l*4+2)) (.slice A7 J P)).setCell (α s (l*4+3)) (.slice C7 Q S)) g ⟨sh,wi,ra,ta,A,B,C,T,U,V,c,d,f,nd,ac,sy,some (α s 0),y,L,H.set l ⟨A7,C7,P,S,R,NB⟩,An,Au,W,Y,d1,d2,cl,cu,ep,t⟩):=by
   have h9:=Rm_book Md.o rfl (i:=l) E.o (x:=⟨A7,C7,P,S,R,NB⟩) (show Bm w3.drew A7 C7 R NB from⟨N7.o.r,N7.o.e,N7.o.n,N7.o.o⟩) (farX_nw (B:=K.heap.size) aZ.o (show FarX g _ ⟨XA,XC,xc,xd,ab,xb⟩ from by have h8:=Md.o.fx l E.o;rw[←HX.o]at h8;exact h8) (by have:=a1.o.1;have:=ax.o;omega) (fun b hb=>by have:=a1.o.2 b hb;have:=ax.o;omega));simp only[←au.o.1,←au.o.2.1,←au.o.2.2.1,←au.o.2.2.2]at h9;exact h9
  have ay:Hid (gZ≠s):=fun e=>blk_own_ne Z0.o M0.o.row (by decide) (by rw[e];rfl)
  have Z9:Hid (Blk ((((w3.drew.setCell (α s (l*4)) (ι G)).setCell (α s (l*4+1)) (ι I)).setCell (α s (l*4+2)) (.slice A7 J P)).setCell (α s (l*4+3)) (.slice C7 Q S)) gZ 64 (vI 0 0)):=(far_st (far_st (far_st (far_st (show Blk w3.drew gZ 64 (vI 0 0) from Blk.below' Z0.o ag.o) ay.o _) ay.o _) ay.o _) ay.o _);have az:Hid (Kp w ((((w3.drew.setCell (α s (l*4)) (ι G)).setCell (α s (l*4+1)) (ι I)).setCell (α s (l*4+2)) (.slice A7 J P)).setCell (α s (l*4+3)) (.slice C7 Q S)) g (some (α s 0))):=Kp_setb (Kp_setb (Kp_setb (Kp_setb (Kp_of_below (CrdB.below_step U0.o ag.o)) _ _) _ _) _ _) _ _
  have bN:Hid (∀z,z<w.heap.size→Mz z g ⟨sh,wi,ra,ta,A,B,C,T,U,V,c,d,f,nd,ac,sy,some (α s 0),y,L,H,An,Au,W,Y,d1,d2,cl,cu,ep,t⟩→Mz z g ⟨sh,wi,ra,ta,A,B,C,T,U,V,c,d,f,nd,ac,sy,some (α s 0),y,L,H.set l ⟨A7,C7,P,S,R,NB⟩,An,Au,W,Y,d1,d2,cl,cu,ep,t⟩):=by
   intro z hz bv;have ce:=U0.o.size;exact Mz_book bv (i:=l) E.o (x:=⟨A7,C7,P,S,R,NB⟩) (fzB_nw (B:=K.heap.size) aZ.o (show FzB z ⟨XA,XC,xc,xd,ab,xb⟩ from by have h8:=bv.zx l E.o;rw[←HX.o]at h8;exact h8) (by have:=ax.o;omega))
  have bw:=κ (ξ (Mz_book MZ.o (i:=l) E.o (x:=⟨A7,C7,P,S,R,NB⟩) (fzB_nw (B:=K.heap.size) aZ.o (show FzB gZ ⟨XA,XC,xc,xd,ab,xb⟩ from by have h8:=MZ.o.zx l E.o;rw[←HX.o]at h8;exact h8) (by have:=Z0.o.lt;have:=ax.o;omega))));have bO:Hid (Cq ⟨sh,wi,ra,ta,A,B,C,T,U,V,c,d,f,nd,ac,sy,some (α s 0),y,L,H.set l ⟨A7,C7,P,S,R,NB⟩,An,Au,W,Y,d1,d2,cl,cu,ep,t⟩):=Cq_set aA.o l ⟨A7,C7,P,S,R,NB⟩ E.o bJ.o
  go_upto_region 4 with fail
  refine Ω bu [7] ?_;generalize w3.drew=w8 at ag Md ad Z ai aj ak bl a2 a3 a4 bn bp br bo bq bt HT M9 Z9 az a0 I7 N7 ⊢;refine jA 0 HT.o ?_;refine jA 1 HT.o ?_;refine jA 2 HT.o ?_;refine jB 3 HT.o ?_;refine jA 4 HT.o ?_;refine jB 5 HT.o ?_;refine jA 6 HT.o ?_;refine jV 7 fun K' hK=>?_
  go_simp;refine hK.out _ _ ?_;clear hK K';refine jP ?_;refine Δ ?_;clear Z ai aj ak bl a2 a3 a4 bn bp br bo bq bt HT ad Md ag
  go_upto_region 5 with fail
  generalize ((((w8.setCell (α s (l*4)) (ι G)).setCell (α s (l*4+1)) (ι I)).setCell (α s (l*4+2)) (.slice A7 J P)).setCell (α s (l*4+3)) (.slice C7 Q S))=w9 at M9 Z9 az a0 ⊢;obtain⟨i0,bP,bQ,bR,bS⟩:=info_parts infoOut
  go_upto_region 6 with fail
  go_wp2_with fail
  go_loopg [10,11] nI (fun g bT bU w'=> ∃(j:Nat) (Ao:Option Addr) (no co:Nat),j+g=nI∧bT= .slice Ao no co∧bU= ι j∧Hid (no=j)∧Hid (w'.ownsRow w9.heap.size 71 2 (.slice Ao no co) no (nds (outC (F.take j))))∧Hid (Below w9.heap.size w9 w'))
  case atStart=>exact⟨0,none,0,0,by omega,rfl,rfl,rfl,(by show World.ownsRow _ _ _ _ _ _ [];exact World.ownsRow_nil _ _ _ _),Below.refl _ _⟩
  case round=>
   obtain⟨j,Ao,no,co,cf,rfl,rfl,a5,OW,am⟩:=hrel;by_cases hlt:j<nI
   ·obtain⟨g9,rfl⟩: ∃g9,gk=g9+1:=⟨gk-1,by omega⟩;have t0:decide ((j:Int)<(nI:Int))=true:=by simp;omega
    have a6:j<F.length:=by rw[←ar.o];exact hlt
    obtain⟨b9,o9,bV,bW,bx⟩:=Ris.at (i:=j) a0.o a6;subst bV;have bX:=(am.o.cell (p:=(α b9 (o9+j))) bW).trans (bx j a6);obtain⟨nj,bz⟩:=ν (no+1);have bA:=κ bz;clear bz;have V0:=β wr (.cells (vI 1 (gI F j)) 71);have V1:=own_below OW V0;have V2:Hid (Rd (wr.alloc (.cells (vI 1 (gI F j)) 71)) (wr.alloc (.cells (vI 1 (gI F j)) 71)).heap.size (some (α wr.heap.size 0)) [ι 1,ι (gI F j)]):=rd_new rfl;have V3:=κ (CrdB.below_step am.o V0);have V4:=V3.o.size;have cg:no≤1000:=by have:=a5.o;omega
    go_wp2_with (at_builtin;go_loud (refine wpList_appR (nm:=nj) V1 V3.o V2 bA.o rfl _ _ _ rfl i0 (.agg #[.int .i64 0,.int .i64 0]) 16 Tryz.underlying28 bP bQ bR bS rfl (by decide) rfl rfl (by simp) (by simp[Value.oneCell']) (by unfold maxLen;omega) (by omega) τ V4 V4 ?_);intro A6 c6 w7 bB bC bY)
    have O7:Hid (w7.ownsRow w9.heap.size 71 2 (.slice A6 nj c6) nj (nds (outC (F.take (j+1))))):=by
     rw[outC_snoc F j a6,nds_snoc];exact bB.o
    have B7:=κ bC;have bZ:Hid (nj=j+1):=by show _=_;rw[bA.o,a5.o]
    clear bB bC bY V0 V1 V2 V3 V4 bX bx
    go_roundg g9
    case measure=>omega
    case rel=>exact⟨j+1,A6,nj,c6,by omega,rfl,by rw[Int.natCast_add];rfl,bZ,O7,B7⟩
   ·have t0:decide ((j:Int)<(nI:Int))=false:=by simp;omega
    have bD:j=nI:=by omega
    have b0:Hid (F.take j=F):=by show _=_;rw[bD,ar.o,List.take_length]
    have O9:=OW.o;rw[b0.o]at O9;have N9:Hid (Nds wr wr.heap.size Ao (outC F)):=Rd.of_own O9;have F9:=κ (fun a ha=>Tre.own_fresh O9 a ha);have b1:=κ (Rm_below M9.o am.o);have an:=κ (Blk.below' Z9.o am.o);have b2:=κ (Kp_step az.o am.o);have ch:=Z9.o.lt;have b3:=κ az.o.size;have b4:Hid (no=(outC F).length):=by show _=_;rw[a5.o,bD,ar.o];unfold outC;rw[List.length_map]
    have F3:Blk (st2 wr gZ (ι 0) (ι (nI:Int))) gZ 64 (vI 0 (nI:Int)):=st2_blk an.o
    have a7:swpF (plO ⟨sh,wi,ra,ta,A,B,C,T,U,V,c,d,f,nd,ac,sy,some (α s 0),y,L,H,An,Au,W,Y,d1,d2,cl,cu,ep,t⟩) (l:Int) x=(plO ⟨sh,wi,ra,ta,A,B,C,T,U,V,c,d,f,nd,ac,sy,some (α s 0),y,L,H.set l ⟨A7,C7,P,S,R,NB⟩,An,Au,W,Y,d1,d2,cl,cu,ep,t⟩,(0,(nI:Int),outC F)):=by
     rw[bd.o,←ar.o];unfold plO;simp only[List.map_set]
    have O:MadeDr base g ⟨sh,wi,ra,ta,A,B,C,T,U,V,c,d,f,nd,ac,sy,some (α s 0),y,L,H,An,Au,W,Y,d1,d2,cl,cu,ep,t⟩ (plO ⟨sh,wi,ra,ta,A,B,C,T,U,V,c,d,f,nd,ac,sy,some (α s 0),y,L,H.set l ⟨A7,C7,P,S,R,NB⟩,An,Au,W,Y,d1,d2,cl,cu,ep,t⟩) 0 (nI:Int) (outC F) w (.returned (.tuple #[.agg (vI 0 (nI:Int)),.slice Ao no co])) (st2 wr gZ (ι 0) (ι (nI:Int))):=by
     unfold st2;refine⟨⟨sh,wi,ra,ta,A,B,C,T,U,V,c,d,f,nd,ac,sy,some (α s 0),y,L,H.set l ⟨A7,C7,P,S,R,NB⟩,An,Au,W,Y,d1,d2,cl,cu,ep,t⟩,Ao,no,co,rfl,b4.o,?_,?_,Rm_setz (Rm_setz b1.o bw.o an.o (by decide) 0 _) bw.o (blk_st an.o 0 _) (by decide) 1 _,rfl,rfl,Kp_past (Kp_past b2.o aa.o 0 _) aa.o 1 _,bN.o,bO.o⟩
     ·exact Rd.keep' (Rd.keep' N9.o (Nat.lt_succ_self _) (fun a ha=>by have:=F9.o a ha;omega) _) (Nat.lt_succ_self _) (fun a ha=>by have:=F9.o a ha;omega) _
     ·intro a ha;exact Nat.le_trans b3.o (F9.o a ha)
    have HF:=κ O;have a7:=κ a7;clear O O9;obtain⟨z0,z1,z2,z3⟩:=q2b an.o;have zx:=χ ((blk_st an.o 0 (ι 0)).cell 1)
    go_wp2_with fail
    obtain⟨e0,e1,_,_⟩:=q2b F3;clear F3;unfold st2 at e0 e1 HF;exact bodyPost_ret (v:= .tuple #[.agg #[ι 0,ι (nI:Int)],.slice Ao no co]) (by simp[results,Tryz.results41,go_sem,e0,e1]) rfl (by first|exact HF.o|(rw[a7.o];exact HF.o))
end Rms
end Go.Proofs.YtcccdikhfgpamaaGreat
