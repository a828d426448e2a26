/- Texts side by side. -/
import Derived.Test.YtfbajlcljfjbkaaGreatUnibk
import Derived.Test.YtfbajlcljfjbkaaGreatUdab
import Derived.Test.YtfbajlcljfjbkaaGreatUdah
set_option linter.unusedVariables false
set_option linter.unusedSimpArgs false
set_option maxRecDepth 100000
set_option maxHeartbeats 16000000
namespace Go.Proofs.YtfbajlcljfjbkaaGreat
open Kap Abv Go.ChangeShapes Go.WideShapes Go.ChangeAt Go.RowKit Mem Tre Ref3 Law3 Fix3 Cfg Crd CrdB CrdC Rr4 Bkp Bks Bcl Dlk Stk Apt Bko Bku Bka Bkc Rbd
namespace Rmp
open Mdp hiding Mm Mm_below Mm_set Mm_off Mm_ep Mm_cr Mm_book Mm_lt
open Mdz hiding Mz_of Mm_setz
open Mdb hiding Mm_push
structure Rm(base:Nat)(w:World)(g:Nat)(q:Mq):Prop where
 blk:Blk w g 106 (mqV q)
 row:w.ownsRow base 110 4 (.slice q.Ab q.nb q.cb) q.nb (bxs q.xs)
 gb:base≤g
 l1:q.nl=q.nd.length
 l2:q.al=q.ac.length
 l3:q.sl=q.sy.length
 l4:q.nb=q.xs.length
 l5:q.n1=q.cl.length
 l6:q.n2=q.cu.length
 nds:Nds w w.heap.size q.A q.nd
 ris:Ris w w.heap.size q.B q.ac
 smb:Smb w w.heap.size q.C q.sy
 cn:Nds w w.heap.size q.An q.cl
 cr:Ris w w.heap.size q.Au q.cu
 bm: ∀i,i<q.xs.length→Bm w (gX q.xs i).A (gX q.xs i).C (gX q.xs i).rl (gX q.xs i).b
 f1:Far g q.Ab q.A (Mem.nds q.nd)
 f2:Far g q.Ab q.B (ints q.ac)
 f3:Far g q.Ab q.C (smbs q.sy)
 f4:Far g q.Ab q.An (Mem.nds q.cl)
 f5:Far g q.Ab q.Au (ints q.cu)
 fx: ∀i,i<q.xs.length→FarX g q.Ab (gX q.xs i)
variable {b b':Bk} {rl rl':List Rc} {q:Mq} {B base c c' d d' g z:Nat} {A A' C C':Option Addr} {w w':World}
theorem Rm_below(h:Rm base w g q)(hb:Below w.heap.size w w'):Rm base w' g q:=
 ⟨Blk.below' h.blk hb,own_below h.row hb,h.gb,h.l1,h.l2,h.l3,h.l4,h.l5,h.l6,Rd.below' h.nds hb hb.size,Rd.below' h.ris hb hb.size,Rd.below' h.smb hb hb.size,Rd.below' h.cn hb hb.size,Rd.below' h.cr hb hb.size,fun i hi=>(h.bm i hi).below hb,h.f1,h.f2,h.f3,h.f4,h.f5,h.fx⟩
theorem Rm_set(h:Rm base w g q)(j:Nat)(v:Value)(q':Mq)(hq:mqV q'=(mqV q).setIfInBounds j v)
  (e:q'.A=q.A∧q'.B=q.B∧q'.C=q.C∧q'.nl=q.nl∧q'.al=q.al∧q'.sl=q.sl∧q'.nd=q.nd∧q'.ac=q.ac∧q'.sy=q.sy∧q'.Ab=q.Ab∧q'.nb=q.nb∧q'.cb=q.cb∧q'.xs=q.xs∧q'.An=q.An∧q'.Au=q.Au∧q'.n1=q.n1∧q'.n2=q.n2∧q'.cl=q.cl∧q'.cu=q.cu):
  Rm base (w.setCell ⟨g,j,none⟩ v) g q':=by
 obtain⟨sh,wi,ra,ta,A,B,C,nl,al,sl,c,d,f,nd,ac,sy,Ab,nb,cb,xs,An,Au,n1,n2,d1,d2,cl,cu,ep,off⟩:=q';simp only at e hq;obtain⟨rfl,rfl,rfl,rfl,rfl,rfl,rfl,rfl,rfl,rfl,rfl,rfl,rfl,rfl,rfl,rfl,rfl,rfl,rfl⟩:=e;refine⟨?_,own_st h.row h.blk (by decide) j v,h.gb,h.l1,h.l2,h.l3,h.l4,h.l5,h.l6,Rd_setg h.nds h.f1 j v,Rd_setg h.ris h.f2 j v,Rd_setg h.smb h.f3 j v,Rd_setg h.cn h.f4 j v,Rd_setg h.cr h.f5 j v,fun i hi=>Bm_setg (h.bm i hi) (h.fx i hi) j v,h.f1,h.f2,h.f3,h.f4,h.f5,h.fx⟩;rw[hq];exact blk_st h.blk j v
theorem Rm_off(h:Rm base w g q)(b:Bool):Rm base (w.setCell ⟨g,11,none⟩ (.bool b)) g {q with off:=b}:=
 Rm_set h 11 _ _ rfl ⟨rfl,rfl,rfl,rfl,rfl,rfl,rfl,rfl,rfl,rfl,rfl,rfl,rfl,rfl,rfl,rfl,rfl,rfl,rfl⟩
theorem Rm_ep(h:Rm base w g q)(x:Int):Rm base (w.setCell ⟨g,10,none⟩ (.int .i64 x)) g {q with ep:=x}:=
 Rm_set h 10 _ _ rfl ⟨rfl,rfl,rfl,rfl,rfl,rfl,rfl,rfl,rfl,rfl,rfl,rfl,rfl,rfl,rfl,rfl,rfl,rfl,rfl⟩
theorem Rm_cr(h:Rm base w g q){An Au:Option Addr}{n1 n2 d1 d2:Nat}{cl:List (Int×Int)}{cu:List Int}(hn:Nds w w.heap.size An cl)(hu:Ris w w.heap.size Au cu)(fn:Far g q.Ab An (nds cl))(fu:Far g q.Ab Au (ints cu))(e1:n1=cl.length)(e2:n2=cu.length):
  Rm base ((w.setCell ⟨g,8,none⟩ (.slice An n1 d1)).setCell ⟨g,9,none⟩ (.slice Au n2 d2)) g {q with An:=An,Au:=Au,n1:=n1,n2:=n2,d1:=d1,d2:=d2,cl:=cl,cu:=cu}:=by
 have s:=fun {X:Option Addr} {xs:List Value} (hx:Rd w w.heap.size X xs) (hf:Far g q.Ab X xs)=>Rd_setg (Rd_setg hx hf 8 (.slice An n1 d1)) hf 9 (.slice Au n2 d2)
 exact⟨blk_st (blk_st h.blk 8 _) 9 _,own_st (own_st h.row h.blk (by decide) 8 _) (blk_st h.blk 8 _) (by decide) 9 _,h.gb,h.l1,h.l2,h.l3,h.l4,e1,e2,s h.nds h.f1,s h.ris h.f2,s h.smb h.f3,s hn fn,s hu fu,fun i hi=>Bm_setg (Bm_setg (h.bm i hi) (h.fx i hi) 8 _) (h.fx i hi) 9 _,h.f1,h.f2,h.f3,fn,fu,h.fx⟩
theorem Rm_book{gb:Nat}(h:Rm base w g q)(hA:q.Ab=some ⟨gb,0,none⟩){i:Nat}(hi:i<q.xs.length){x:Bx}(hx:Bm w x.A x.C x.rl x.b)(fx:FarX g q.Ab x):
  Rm base ((((w.setCell ⟨gb,i*4,none⟩ (.int .i64 x.b.sh)).setCell ⟨gb,i*4+1,none⟩ (.int .i64 x.b.ca)).setCell ⟨gb,i*4+2,none⟩ (.slice x.A x.b.rows.length x.c)).setCell ⟨gb,i*4+3,none⟩ (.slice x.C x.b.op.length x.d)) g {q with xs:=q.xs.set i x}:=by
 obtain⟨sh,wi,ra,ta,A,B,C,nl,al,sl,c,d,f,nd,ac,sy,Ab,nb,cb,xs,An,Au,n1,n2,d1,d2,cl,cu,ep,off⟩:=q;simp only at hA hi fx;subst hA;obtain⟨h1,h2,h3,h4,h5,h6,h7,h8,h9,h10,h11,h12,h13,h14,h15,h16,h17,h18,h19,h20,h21⟩:=h;simp only at h1 h2 h3 h4 h5 h6 h7 h8 h9 h10 h11 h12 h13 h14 h15 h16 h17 h18 h19 h20 h21;obtain⟨s1,g1⟩:=World.ownsRow.stored h2 (i*4) (.int .i64 x.b.sh);obtain⟨s2,g2⟩:=World.ownsRow.stored s1 (i*4+1) (.int .i64 x.b.ca);obtain⟨s3,g3⟩:=World.ownsRow.stored s2 (i*4+2) (.slice x.A x.b.rows.length x.c);obtain⟨s4,g4⟩:=World.ownsRow.stored s3 (i*4+3) (.slice x.C x.b.op.length x.d);have k1:=blk_own_grown h1 h2 (by decide) g1;have k2:=blk_own_grown k1 s1 (by decide) g2;have k3:=blk_own_grown k2 s2 (by decide) g3;have k4:=blk_own_grown k3 s3 (by decide) g4;have s:=fun {X:Option Addr} {ys:List Value} (hy:Rd w w.heap.size X ys) (hf:Far g (some (α gb 0)) X ys)=>Rd_setb (Rd_setb (Rd_setb (Rd_setb hy hf (i*4) (ι x.b.sh)) hf (i*4+1) (ι x.b.ca)) hf (i*4+2) (.slice x.A x.b.rows.length x.c)) hf (i*4+3) (.slice x.C x.b.op.length x.d)
 have sb:=fun {y:Bx} (hy:Bm w y.A y.C y.rl y.b) (hf:FarX g (some (α gb 0)) y)=>Bm_setb (Bm_setb (Bm_setb (Bm_setb hy hf (i*4) (ι x.b.sh)) hf (i*4+1) (ι x.b.ca)) hf (i*4+2) (.slice x.A x.b.rows.length x.c)) hf (i*4+3) (.slice x.C x.b.op.length x.d)
 refine⟨k4,?_,h3,h4,h5,h6,?_,h8,h9,s h10 h16,s h11 h17,s h12 h18,s h13 h19,s h14 h20,?_,h16,h17,h18,h19,h20,?_⟩
 ·show World.ownsRow _ _ _ _ _ _ (bxs (xs.set i x));rw[bxs_set _ _ _ hi];exact s4
 ·show nb=(xs.set i x).length;rw[List.length_set];exact h7
 ·intro k hk;have hk':k<xs.length:=by simpa using hk
  show Bm _ (gX (xs.set i x) k).A (gX (xs.set i x) k).C (gX (xs.set i x) k).rl (gX (xs.set i x) k).b;rw[gX_set _ _ _ _ hi];by_cases e:k=i
  ·rw[if_pos e];exact sb hx fx
  ·rw[if_neg e];exact sb (h15 k hk') (h21 k hk')
 ·intro k hk;have hk':k<xs.length:=by simpa using hk
  show FarX g _ (gX (xs.set i x) k);rw[gX_set _ _ _ _ hi];by_cases e:k=i
  ·rw[if_pos e];exact fx
  ·rw[if_neg e];exact h21 k hk'
theorem Rm_lt(h:Rm base w g q):g<w.heap.size∧ ∀b,q.Ab=some b→b.block<w.heap.size:=
 ⟨h.blk.lt,fun b hb=>(World.ownsRow.lt h.row b.block (by rw[hb];rfl)).2⟩
theorem Rz_of(h:Rm base w g q)(hz:w.heap.size≤z):Mz z g q:=
 ⟨by have:=h.blk.lt;omega,FarE_of h.nds hz,FarE_of h.ris hz,FarE_of h.smb hz,FarE_of h.cn hz,FarE_of h.cr hz,fun i hi=>⟨FarE_of (h.bm i hi).r hz,FarE_of (h.bm i hi).o hz,fun j hj=>FarE_of ((h.bm i hi).n j hj) hz⟩⟩
theorem Rm_setz{te:TypeId}{cs:Array Value}(h:Rm base w g q)(hm:Mz z g q)(hk:Blk w z te cs)(hne:110≠te)(j:Nat)(v:Value):Rm base (w.setCell ⟨z,j,none⟩ v) g q:=
 ⟨far_st h.blk (fun e=>hm.ne e.symm) v,own_st h.row hk hne j v,h.gb,h.l1,h.l2,h.l3,h.l4,h.l5,h.l6,Rd_setz h.nds hm.z1 j v,Rd_setz h.ris hm.z2 j v,Rd_setz h.smb hm.z3 j v,Rd_setz h.cn hm.z4 j v,Rd_setz h.cr hm.z5 j v,fun i hi=>Mdz.Bm_setz (h.bm i hi) (hm.zx i hi) j v,h.f1,h.f2,h.f3,h.f4,h.f5,h.fx⟩
theorem Rm_push(h:Rm base w g q){x:Bx}(hx:Bm w x.A x.C x.rl x.b)(fx:FarX g q.Ab x){A6:Option Addr}{n6 c6:Nat}(hn:n6=q.nb+1)
  (ho:w'.ownsRow base 110 4 (.slice A6 n6 c6) n6 (bxs q.xs++bxV x))(hg:w.grownBy w' (Value.slice q.Ab q.nb q.cb).ownBlock)(hob:(Value.slice A6 n6 c6).ownBlock=(Value.slice q.Ab q.nb q.cb).ownBlock∨(Value.slice A6 n6 c6).ownBlock=some w.heap.size):
  Rm base (w'.setCell ⟨g,7,none⟩ (.slice A6 n6 c6)) g {q with Ab:=A6,nb:=n6,cb:=c6,xs:=q.xs++[x]}:=by
 have k1:=blk_own_grown h.blk h.row (by decide) hg;have s:=fun {X:Option Addr} {ys:List Value} (hy:Rd w w.heap.size X ys) (hf:Far g q.Ab X ys)=>Rd_setg (Rd_grown hy hg (Far_off hf)) (Far_push hf hy hob) 7 (.slice A6 n6 c6)
 have sb: ∀(y:Bx),Bm w y.A y.C y.rl y.b→FarX g q.Ab y→Bm (w'.setCell (α g 7) (.slice A6 n6 c6)) y.A y.C y.rl y.b∧FarX g A6 y:=fun y hy hf=>
  ⟨⟨s hy.r hf.1,hy.e,fun i hi=>s (hy.n i hi) (hf.2.2 i hi),s hy.o hf.2.1⟩,⟨Far_push hf.1 hy.r hob,Far_push hf.2.1 hy.o hob,fun j hj=>Far_push (hf.2.2 j hj) (hy.n j hj) hob⟩⟩
 have all: ∀i,i<(q.xs++[x]).length→Bm (w'.setCell (α g 7) (.slice A6 n6 c6)) (gX (q.xs++[x]) i).A (gX (q.xs++[x]) i).C (gX (q.xs++[x]) i).rl (gX (q.xs++[x]) i).b∧FarX g A6 (gX (q.xs++[x]) i):=by
  intro i hi;have hi':i<q.xs.length+1:=by simpa using hi
  rw[gX_snoc _ _ _ hi'];by_cases e:i=q.xs.length
  ·rw[if_pos e];exact sb x hx fx
  ·rw[if_neg e];exact sb _ (h.bm i (by omega)) (h.fx i (by omega))
 refine⟨?_,?_,h.gb,h.l1,h.l2,h.l3,?_,h.l5,h.l6,s h.nds h.f1,s h.ris h.f2,s h.smb h.f3,s h.cn h.f4,s h.cr h.f5,fun i hi=>(all i hi).1,Far_push h.f1 h.nds hob,Far_push h.f2 h.ris hob,Far_push h.f3 h.smb hob,Far_push h.f4 h.cn hob,Far_push h.f5 h.cr hob,fun i hi=>(all i hi).2⟩
 ·exact blk_st k1 7 _
 ·show World.ownsRow _ _ _ _ _ _ (bxs (q.xs++[x]));rw[bxs_snoc];exact own_st ho k1 (by decide) 7 _
 ·show n6=(q.xs++[x]).length;rw[hn,h.l4];simp
theorem Rm_new{sh wi ra ta:Int}{A1 B1 C1 An Au:Option Addr}{nl al sl c1 d1 f1 n1 n2 dn du:Nat}{nd cl:List (Int×Int)}{ac cu:List Int}{sy:List (Int×Int×Int×Nat)}(hn:Nds w w.heap.size A1 nd)(ha:Ris w w.heap.size B1 ac)(hs:Smb w w.heap.size C1 sy)(hcn:Nds w w.heap.size An cl)(hcu:Ris w w.heap.size Au cu)
  (l1:nl=nd.length)(l2:al=ac.length)(l3:sl=sy.length)(l5:n1=cl.length)(l6:n2=cu.length)(hb:base≤w.heap.size):
  Rm base (w.alloc (.cells #[.int .i64 sh,.int .i64 wi,.int .i64 ra,.int .i64 ta,.slice A1 nl c1,.slice B1 al d1,.slice C1 sl f1,.slice none 0 0,.slice An n1 dn,.slice Au n2 du,.int .i64 0,.bool false] 106)) w.heap.size ⟨sh,wi,ra,ta,A1,B1,C1,nl,al,sl,c1,d1,f1,nd,ac,sy,none,0,0,[],An,Au,n1,n2,dn,du,cl,cu,0,false⟩:=by
 have U:Below w.heap.size w (w.alloc (.cells (vQ sh wi ra ta A1 nl c1 B1 al d1 C1 sl f1 none 0 0 An n1 dn Au n2 du 0 false) 106)):=β w (.cells (vQ sh wi ra ta A1 nl c1 B1 al d1 C1 sl f1 none 0 0 An n1 dn Au n2 du 0 false) 106);have f: ∀{X:Option Addr} {ys:List Value},Rd w w.heap.size X ys→Far w.heap.size none X ys:=fun h=>Far_of h (.inl τ) (fun b hb=>by cases hb)
 exact⟨Blk.fresh _ _ _,World.ownsRow_nil _ _ _ _,hb,l1,l2,l3,rfl,l5,l6,Rd.below' hn U U.size,Rd.below' ha U U.size,Rd.below' hs U U.size,Rd.below' hcn U U.size,Rd.below' hcu U U.size,fun i hi=>absurd hi (Nat.not_lt_zero _),f hn,f ha,f hs,f hcn,f hcu,fun i hi=>absurd hi (Nat.not_lt_zero _)⟩
theorem farX_nw{Ab:Option Addr}(hw:Nw B rl A' C' rl')(fx:FarX g Ab ⟨A,C,c,d,rl,b⟩)(hg:g<B)(hA: ∀k,Ab=some k→k.block<B):FarX g Ab ⟨A',C',c',d',rl',b'⟩:=
 ⟨Far_new hg hA hw.1,Far_new hg hA hw.2.1,fun i hi=>by
  rcases hw.2.2 i hi with h|⟨j,hj,he⟩
  ·exact Far_new hg hA h
  ·show Far g Ab (gC rl' i).A (ints (gC rl' i).r.ns)
   rw[he]
   exact fx.2.2 j hj⟩
theorem fzB_nw(hw:Nw B rl A' C' rl')(fx:FzB z ⟨A,C,c,d,rl,b⟩)(hz:z<B):FzB z ⟨A',C',c',d',rl',b'⟩:=
 ⟨FarE_new hz hw.1,FarE_new hz hw.2.1,fun i hi=>by
  rcases hw.2.2 i hi with h|⟨j,hj,he⟩
  ·exact FarE_new hz h
  ·show FarE z (gC rl' i).A (ints (gC rl' i).r.ns)
   rw[he]
   exact fx.2.2 j hj⟩
def Cq(q:Mq):Prop:= ∀i,i<q.xs.length→(gX q.xs i).b.op.length≤(gX q.xs i).d
theorem Cq_set(h:Cq q)(i:Nat)(x:Bx)(hi:i<q.xs.length)(hx:x.b.op.length≤x.d): ∀k,k<(q.xs.set i x).length→(gX (q.xs.set i x) k).b.op.length≤(gX (q.xs.set i x) k).d:=by
 intro k hk;have hk':k<q.xs.length:=by simpa using hk
 rw[gX_set _ _ _ _ hi];by_cases e:k=i
 ·rw[if_pos e];exact hx
 ·rw[if_neg e];exact h k hk'
end Rmp
namespace Rmr
open Lax Res Lat Rfs Rmp
open Mdp hiding Mm Mm_below Mm_set Mm_off Mm_ep Mm_cr Mm_book Mm_lt
open Mdz hiding Mz_of Mm_setz
open Mds hiding MadeDo madeDo_no
open Rbc (wpL_two)
variable {xs ys:List Value} {g:Nat} {X:Option Addr}
theorem far_same{Ab:Option Addr}(h:Far g Ab X xs)(hne:xs≠[]):Far g Ab X ys:= .inr (h.resolve_left hne)
theorem farE_same{z:Nat}(h:FarE z X xs)(hne:xs≠[]):FarE z X ys:= .inr (h.resolve_left hne)
theorem nds_ne{l:List (Int×Int)}(h:1≤l.length):nds l≠[]:=by
 intro e;have h1:=nds_len l;rw[e]at h1;simp at h1;omega
theorem ints_ne{l:List Int}(h:1≤l.length):ints l≠[]:=by
 intro e;have h1:(ints l).length=l.length:=by simp[ints]
 rw[e]at h1;simp at h1;omega
def MadeDr(base g:Nat)(q0:Mq)(p:Pm)(code id:Int)(outs:List (Int×Int))(w:World)(e:Ending)(w':World):Prop:=
 ∃q Ao no co,e= .returned (.tuple #[.agg #[.int .i64 code,.int .i64 id],.slice Ao no co])∧no=outs.length∧Nds w' w'.heap.size Ao outs∧(∀a,Ao=some a→w.heap.size≤a.block)∧Rm base w' g q∧plO q=p∧q.Ab=q0.Ab∧Kp w w' g q0.Ab∧(∀z,z<w.heap.size→Mz z g q0→Mz z g q)∧Cq q
theorem madeDr_no{base:Nat}{w w':World}{q q0:Mq}{p:Pm}{code id:Int}(h:Rm base w' g q)(hp:plO q=p)(hA:q.Ab=q0.Ab)(hk:Kp w w' g q0.Ab)(hz: ∀z,z<w.heap.size→Mz z g q0→Mz z g q)(hc:Cq q):MadeDr base g q0 p code id [] w (.returned (.tuple #[.agg #[.int .i64 code,.int .i64 id],.slice none 0 0])) w':=
 ⟨q,none,0,0,rfl,rfl,.inl rfl,fun a ha=>(by cases ha),h,hp,hA,hk,hz,hc⟩
def MadeRr(base g:Nat)(q:Mq)(a:Nat)(x:Int)(w:World)(e:Ending)(w':World):Prop:=
 e= .returned (.tuple #[])∧ ∃A5 A6 d5 d6 nU,Rm base w' g {q with An:=A5,Au:=A6,n2:=nU,d1:=d5,d2:=d6,cu:=Cpl.relU q.cl q.cu (gI q.ac a) x}∧(A5=q.An∨ ∀b,A5=some b→w.heap.size≤b.block)∧(A6=q.Au∨ ∀b,A6=some b→w.heap.size≤b.block)∧Kp w w' g q.Ab
theorem rmrelease_any(base g aN:Nat)(q:Mq)(x:Int)(w:World)(h:Hid (Rm base w g q))(hg:GoodSt q.cl q.cu)(hwa:WfI q.ac)(ha:aN<q.al)(hal:q.al≤100)(hx: -9223372036854775808≤x∧x≤9223372036854775807):
  Calls Tryz.prog 91 #[.pointer (some ⟨g,0,none⟩),.int .i64 (aN:Int),.int .i64 x] w (MadeRr base g q aN x w):=by
 obtain⟨sh,wi,ra,ta,A,B,C,nl,al,sl,c,d,f,nd,ac,sy,Ab,nb,cb,xs,An,Au,n1,n2,d1,d2,cl,cu,ep,off⟩:=q;simp only at hg hwa ha hal;have HG:=κ hg;have L2:=κ (ξ h.out.l2);have L5:=κ (ξ h.out.l5);have L6:=κ (ξ h.out.l6);obtain⟨b5,o5,hb5,hb5l,hac⟩:=Ris.at (i:=0) h.out.ris (by show 0<ac.length;have:=L2.out;omega);simp only at hb5;subst hb5;have HB5:=κ hb5l;have ABT:=hac aN (by show aN<ac.length;rw[←L2.out];exact ha);have HABT:Hid (∀W,Below w.heap.size w W→W.cell? (α b5 (o5+aN))=some (ι (gI ac aN))):=fun W hb=>(hb.cell (p:=(α b5 (o5+aN))) hb5l).trans ABT
 have hin:=hwa aN (by rw[←L2.out];exact ha);have RS:=fun W hn hu=>rrelease_fresh An Au d1 d2 cl cu (gI ac aN) x W hn hu hg hin hx.1 hx.2
 obtain⟨UU,hUU⟩:=ν (Cpl.relU cl cu (gI ac aN) x);obtain⟨bb,hbb⟩:=ν (Cpl.relF cl cu (gI ac aN) x);obtain⟨nU,hnU⟩:=ν UU.length;unfold MadeRelR at RS;rw[←hUU,←hbb,←L5.out,←L6.out]at RS;simp only[←hnU]at RS;have HUU:=κ hUU;have HNU:=κ hnU;obtain⟨av,hav⟩:=ν (gI ac aN);rw[←hav]at RS HABT hin;have HAV:=κ hav;have taN:decide ((aN:Int)<(al:Int))=true:=by simp;omega
 clear hUU hbb hnU hav hin ABT hac hb5l hwa hg;have hgl:=κ ((Rm_lt h.out).1);have hfar:=κ (ξ ((Rm_lt h.out).2));have hd0:Below w.heap.size w w.drew:=Below.drew ψ;have M0:=κ (Rm_below h.out hd0);let T41:World→Prop:=fun w'=>w'.cell? (α g 8)=some (.slice An n1 d1)∧w'.cell? (α g 9)=some (.slice Au n2 d2)∧w'.cell? (α g 5)=some (.slice (some (α b5 o5)) al d)∧w'.cell? (α b5 (o5+aN))=some (ι av)
 have HT:Hid (T41 (w.drew)):=⟨M0.out.blk.cell 8,M0.out.blk.cell 9,M0.out.blk.cell 5,HABT.out _ hd0⟩;have HD0:=κ hd0;clear hd0
 go_enter Tryz.func91,Tryz.ntmps91
 go_upto_region 0 with fail
 go_cut [6] (fun sS wx=> ∃(gS:Nat) (A5 A6:Option Addr) (d5 d6:Nat),sS= .pointer (some (α gS 0))∧Hid (Blk wx gS 102 (vS A5 n1 d5 A6 nU d6))∧Hid (Nds wx wx.heap.size A5 cl)∧Hid (Ris wx wx.heap.size A6 UU)∧Hid (A5=An∨ ∀a,A5=some a→w.heap.size≤a.block)∧Hid (A6=Au∨ ∀a,A6=some a→w.heap.size≤a.block)∧Hid (Below w.heap.size w wx))
 case first=>
  refine Ω T41 [18] ?_;refine jA 0 HT.out ?_;refine jA 1 HT.out ?_;refine jA 2 HT.out ?_;refine jB 3 HT.out ?_;refine jA 4 HT.out ?_;refine jA 5 HT.out ?_;refine jA 6 HT.out ?_;refine jA 7 HT.out ?_;refine jB 8 HT.out ?_;refine jA 9 HT.out ?_;refine jA 10 HT.out ?_;refine jB 11 HT.out ?_;refine jA 12 HT.out ?_;refine wpL_two (m:=13) (n:=17) (by kernel_rfl) rfl rfl ?_ ?_
  ·intro K' hK;go_simp;refine(RS _ (κ (Rd.below' h.out.cn HD0.out HD0.out.size)) (κ (Rd.below' h.out.cr HD0.out HD0.out.size))).mono ?_;rintro e w4 ⟨A5,d5,A6,d6,rfl,hn5,hu5,hb4,fa5,fb5⟩;have HB4:=κ (CrdB.below_step HD0.out hb4);have M4:=κ (Rm_below h.out HB4.out);have HT2:Hid (T41 w4):=⟨M4.out.blk.cell 8,M4.out.blk.cell 9,M4.out.blk.cell 5,HABT.out _ HB4.out⟩;have N5:=κ hn5;have R5:=κ hu5;have F5:Hid (A5=An∨ ∀a,A5=some a→w.heap.size≤a.block):=fa5;have F6:Hid (A6=Au∨ ∀a,A6=some a→w.heap.size≤a.block):=fb5;have hb34:=κ HB4.out.size;clear hn5 hu5 hb4 fa5 fb5
   go_wp2_with fail
   refine hK.out _ _ HT2.out ?_;clear hK K';refine jP ?_;refine jA 14 HT2.out ?_;refine jA 15 HT2.out ?_;refine jA 16 HT2.out ?_;have HBb:=κ (HB4.out.alloc HB4.out.size (.cells (vS none 0 0 none 0 0) 102));have Mb:=κ (Rm_below h.out HBb.out);have HTb:Hid (T41 (w4.alloc (.cells (vS none 0 0 none 0 0) 102))):=⟨Mb.out.blk.cell 8,Mb.out.blk.cell 9,Mb.out.blk.cell 5,HABT.out _ HBb.out⟩;refine jN 17 fun K' hK=>?_
   go_simp;refine hK.out _ _ HTb.out ?_;clear hK K';refine jP ?_;refine jV 18 fun K' hK=>?_
   go_simp;refine hK.out _ _ ?_;clear hK K';refine jP ?_;refine jZ 19 ?_;refine Δ ?_;have hT:=κ (Blk.fresh w4 102 (vS A5 n1 d5 A6 nU d6));have hU:=β w4 (.cells (vS A5 n1 d5 A6 nU d6) 102)
   go_wp2_with fail
   go_meet;exact⟨w4.heap.size,A5,A6,d5,d6,rfl,hT,Rd.below' N5.out hU hU.size,Rd.below' R5.out hU hU.size,F5,F6,CrdB.below_step HB4.out hU⟩
  ·intro K' hK;have HBa:=κ (HD0.out.alloc HD0.out.size (.cells (vS none 0 0 none 0 0) 102));have Ma:=κ (Rm_below h.out HBa.out);have HTa:Hid (T41 (w.drew.alloc (.cells (vS none 0 0 none 0 0) 102))):=⟨Ma.out.blk.cell 8,Ma.out.blk.cell 9,Ma.out.blk.cell 5,HABT.out _ HBa.out⟩;have Sa:Hid (Blk (w.drew.alloc (.cells (vS none 0 0 none 0 0) 102)) w.heap.size 102 (vS none 0 0 none 0 0)):=Blk.fresh w.drew _ _;go_simp;refine hK.out _ _ HTa.out ?_;clear hK K';refine jP ?_;refine jN 13 fun K' hK=>?_
   go_simp;refine(RS _ (κ (Rd.below' h.out.cn HBa.out HBa.out.size)) (κ (Rd.below' h.out.cr HBa.out HBa.out.size))).mono ?_;rintro e w4 ⟨A5,d5,A6,d6,rfl,hn5,hu5,hb4,fa5,fb5⟩;have HB4:=κ (CrdB.below_step HBa.out hb4);have M4:=κ (Rm_below h.out HB4.out);have HT2:Hid (T41 w4):=⟨M4.out.blk.cell 8,M4.out.blk.cell 9,M4.out.blk.cell 5,HABT.out _ HB4.out⟩;have N5:=κ hn5;have R5:=κ hu5;have S4:=κ (Blk.below' Sa.out hb4);have h9:(w.drew.alloc (.cells (vS none 0 0 none 0 0) 102)).heap.size=w.heap.size+1:=World.size_alloc _ _;have G5:Hid (A5=An∨ ∀a,A5=some a→w.heap.size+1≤a.block):=by rw[h9]at fa5;exact fa5
   have G6:Hid (A6=Au∨ ∀a,A6=some a→w.heap.size+1≤a.block):=by rw[h9]at fb5;exact fb5
   clear hn5 hu5 hb4 fa5 fb5 h9;obtain⟨p0,p1,p2,p3⟩:=q2b S4.out;have p4:=χ ((blk_st S4.out 0 (.slice A5 n1 d5)).cell 1);have p5:=(blk_st S4.out 0 (.slice A5 n1 d5)).thaw 1
   go_wp2_with fail
   refine hK.out _ _ HT2.out ?_;clear hK K';refine jP ?_;refine jA 14 HT2.out ?_;refine jA 15 HT2.out ?_;refine jA 16 HT2.out ?_;refine jV 18 fun K' hK=>?_
   go_simp;refine hK.out _ _ ?_;clear hK K';refine jP ?_;refine jZ 19 ?_;refine Δ ?_
   have hneA: ∀{X0 X:Option Addr} {xs ys:List Value},Rd w w.heap.size X0 xs→xs≠[]→(X=X0∨ ∀a,X=some a→w.heap.size+1≤a.block)→ ∀a,X=some a→a.block≠w.heap.size:=by
    intro X0 X xs ys hr hne hf a ha;rcases hf with hf|hf
    ·obtain⟨b,o,hA,hb,_⟩:=Rd.at hr hne;rw[hf,hA]at ha;have e:=Option.some.inj ha;rw[←e];show b≠_;omega
    ·have:=hf a ha;omega
   have e5:=hneA (ys:=[]) h.out.cn (nds_ne HG.out.one) G5.out;have e6:=hneA (ys:=[]) h.out.cr (ints_ne (by show 1≤cu.length;rw[HG.out.len];exact HG.out.one)) G6.out;have hT:Hid (Blk (st2 w4 w.heap.size (.slice A5 n1 d5) (.slice A6 nU d6)) w.heap.size 102 (vS A5 n1 d5 A6 nU d6)):=st2_blk S4.out;have hN:Hid (Nds (st2 w4 w.heap.size (.slice A5 n1 d5) (.slice A6 nU d6)) (st2 w4 w.heap.size (.slice A5 n1 d5) (.slice A6 nU d6)).heap.size A5 cl):=Rd.keep' (Rd.keep' N5.out (Nat.lt_succ_self _) e5 _) (Nat.lt_succ_self _) e5 _;have hR:Hid (Ris (st2 w4 w.heap.size (.slice A5 n1 d5) (.slice A6 nU d6)) (st2 w4 w.heap.size (.slice A5 n1 d5) (.slice A6 nU d6)).heap.size A6 UU):=Rd.keep' (Rd.keep' R5.out (Nat.lt_succ_self _) e6 _) (Nat.lt_succ_self _) e6 _;have hB:Hid (Below w.heap.size w (st2 w4 w.heap.size (.slice A5 n1 d5) (.slice A6 nU d6))):=st2_below HB4.out τ;have F5:Hid (A5=An∨ ∀a,A5=some a→w.heap.size≤a.block):=G5.out.imp id (fun hf a ha=>by have:=hf a ha;omega);have F6:Hid (A6=Au∨ ∀a,A6=some a→w.heap.size≤a.block):=G6.out.imp id (fun hf a ha=>by have:=hf a ha;omega);clear p0 p1 p2 p3 p4 p5 hneA e5 e6
   go_wp2_with fail
   go_meet;exact⟨w.heap.size,A5,A6,d5,d6,rfl,hT,hN,hR,F5,F6,hB⟩
 case rest=>
  obtain⟨gS,A5,A6,d5,d6,rfl,S6,N6,R6,F5,F6,HB6⟩:=hcut
  rename World=>w6
  have M6:=κ (Rm_below h.out HB6.out);have K6:Hid (Blk w6 g 106 (vQ sh wi ra ta A nl c (some (α b5 o5)) al d C sl f Ab nb cb An n1 d1 Au n2 d2 ep off)):=M6.out.blk
  have fA5:Far g Ab A5 (nds cl):=by
   rcases F5.out with e|e
   ·rw[e];exact h.out.f4
   ·exact Far_new hgl.out hfar.out e
  have fA6:Far g Ab A6 (ints UU):=by
   rcases F6.out with e|e
   ·rw[e];exact far_same h.out.f5 (ints_ne (by show 1≤cu.length;rw[HG.out.len];exact HG.out.one))
   ·exact Far_new hgl.out hfar.out e
  have M10:Rm base ((w6.setCell (α g 8) (.slice A5 n1 d5)).setCell (α g 9) (.slice A6 nU d6)) g ⟨sh,wi,ra,ta,A,some (α b5 o5),C,nl,al,sl,c,d,f,nd,ac,sy,Ab,nb,cb,xs,A5,A6,n1,nU,d5,d6,cl,UU,ep,off⟩:=Rm_cr M6.out N6.out R6.out fA5 fA6 L5.out HNU.out
  have hfin:MadeRr base g ⟨sh,wi,ra,ta,A,some (α b5 o5),C,nl,al,sl,c,d,f,nd,ac,sy,Ab,nb,cb,xs,An,Au,n1,n2,d1,d2,cl,cu,ep,off⟩ aN x w (.returned (.tuple #[])) ((w6.setCell (α g 8) (.slice A5 n1 d5)).setCell (α g 9) (.slice A6 nU d6)):=
   ⟨rfl,A5,A6,d5,d6,nU,by have h2:=M10;rw[HUU.out]at h2;exact h2,F5.out,F6.out,Kp_setg (Kp_setg (Kp_of_below HB6.out) 8 _) 9 _⟩
  have HF:=κ hfin;clear hfin M10;obtain⟨k0,k1,k2,k3,k4,k5,k6,k7,k8,k9,k10,k11,f0,f1,f2,f3,f4,f5,f6,f7,f8,f9,f10,f11⟩:=q12_of K6.out;obtain⟨s0,s1,s2,s3⟩:=q2b S6.out;have x9:=χ ((blk_st K6.out 8 (.slice A5 n1 d5)).cell 9);have y9:=(blk_st K6.out 8 (.slice A5 n1 d5)).thaw 9
  go_wp2_with fail
  exact bodyPost_end (v:= .tuple #[]) (by simp[results,Tryz.results91,go_sem]) rfl HF.out
end Rmr
namespace Rms
open Lax Bkf Bkg Bkq Rba Rbc Lat Rmp Rmr Mdn Mdo Mdk
open Mdp hiding Mm Mm_below Mm_set Mm_off Mm_ep Mm_cr Mm_book Mm_lt
open Mdz hiding Mz_of Mm_setz
open Mds hiding MadeDo madeDo_no
open Rul1 hiding below_step
open Bkw hiding infoN Bo_below Bo_grown
open Rbf (rsweep_any MadeRs)
open Mdy hiding infoOut
theorem infoOut:(Tryz.prog.info? 136).map (fun i=>(i.zero,i.size,i.bytes))=some (some (.agg #[.int .i64 0,.int .i64 0]),2,16):=by kernel_rfl
theorem rmsweep_any(base g m:Nat)(q:Mq)(i x:Int)(w:World)(h:Hid (Rm base w g q))(hv:Hid (Vq m q))(hm:m≤900)(hcq:Hid (Cq q))(hi:inI i)(hx0: -9223372036854775808≤x)(hx1:x≤9223372036854775807):
  Calls Tryz.prog 47 #[.pointer (some ⟨g,0,none⟩),.int .i64 i,.int .i64 x] w (MadeDr base g q (swpF (plO q) i x).1 (swpF (plO q) i x).2.1 (swpF (plO q) i x).2.2.1 (swpF (plO q) i x).2.2.2 w):=by
 obtain⟨sh,wi,ra,ta,A,B,C,nl,al,sl,c,d,f,nd,ac,sy,Ab,nb,cb,xs,An,Au,n1,n2,d1,d2,cl,cu,ep,off⟩:=q;obtain⟨v1,v2,va1,v3,v4,v5,v6,v7,v8,v9,v10⟩:=hv.out;obtain⟨l1,l2,l3,l4,l5,l6⟩:=(⟨h.out.l1,h.out.l2,h.out.l3,h.out.l4,h.out.l5,h.out.l6⟩:nl=nd.length∧al=ac.length∧sl=sy.length∧nb=xs.length∧n1=cl.length∧n2=cu.length);have L1:=κ l1;have L2:=κ l2;have L3:=κ l3;have L4:=κ l4;have L5:=κ l5;have L6:=κ l6;have V4:=κ v4;have V5:=κ v5;have V7:=κ v7;have V9:=κ v9;have V10:=κ v10;simp only at v1 v2 va1 v3 v6 v8;obtain⟨gb,hgb⟩:=own_at h.out.row (by show 0<nb;simp only at v7;omega);simp only at hgb;subst hgb;have hnb:nb≤1000∧1≤nb:=by simp only at v7;omega
 have HCQ:=κ hcq.out;clear l1 l2 l3 l4 l5 l6 v4 v5 v7 v9 v10;have U0:=κ (β w (.cells (vI 0 0) 67));have Z0:=κ (Blk.fresh w 67 (vI 0 0));have M0:=κ (Rm_below h.out U0.out);have MZ:=κ (Rz_of h.out τ)
 go_enter Tryz.func47,Tryz.ntmps47
 go_upto_region 1 with fail
 generalize hgZ:w.heap.size=gZ at Z0 MZ ⊢;have HGZ:=κ hgZ;have HGZ':Hid (w.heap.size≤gZ):=by show _≤_;omega
 clear hgZ;generalize (w.alloc (.cells (vI 0 0) 67))=w0 at Z0 U0 M0 ⊢;have K0:Hid (Blk w0 g 106 (vQ sh wi ra ta A nl c B al d C sl f (some (α gb 0)) nb cb An n1 d1 Au n2 d2 ep off)):=M0.out.blk;obtain⟨k0,k1,k2,k3,k4,k5,k6,k7,k8,k9,k10,k11,f0,f1,f2,f3,f4,f5,f6,f7,f8,f9,f10,f11⟩:=q12_of K0.out;have HBL:Hid (nb=(plO ⟨sh,wi,ra,ta,A,B,C,nl,al,sl,c,d,f,nd,ac,sy,some (α gb 0),nb,cb,xs,An,Au,n1,n2,d1,d2,cl,cu,ep,off⟩).bs.length):=by show nb=(xs.map Bx.b).length;rw[List.length_map];exact L4.out
 have hh0:hasF nb i=(decide (0≤i)&&decide (i<(nb:Int))):=rfl;by_cases hlo:i<0
 case pos=>
  have t1:decide (i<0)=true:=by simp[hlo]
  have hh':hasF nb i=false:=by rw[hh0];simp;omega
  clear hh0
  go_upto_region 2 with fail
  clear k0 k1 k2 k3 k4 k5 k6 k7 k8 k9 k10 k11 f0 f1 f2 f3 f4 f5 f6 f7 f8 f9 f10 f11 K0;have HP0:Hid (swpF (plO ⟨sh,wi,ra,ta,A,B,C,nl,al,sl,c,d,f,nd,ac,sy,some (α gb 0),nb,cb,xs,An,Au,n1,n2,d1,d2,cl,cu,ep,off⟩) i x=((plO ⟨sh,wi,ra,ta,A,B,C,nl,al,sl,c,d,f,nd,ac,sy,some (α gb 0),nb,cb,xs,An,Au,n1,n2,d1,d2,cl,cu,ep,off⟩),(1,0,[]))):=swp_no HBL.out hh';have MR:=κ (Rm_below M0.out (κ (Below.refl w0.heap.size w0)).out);have ZR:=κ (Blk.below' Z0.out (κ (Below.refl w0.heap.size w0)).out);have UR:Hid (Kp w w0 g (some (α gb 0))):=Kp_of_below (CrdB.below_step U0.out (κ (Below.refl w0.heap.size w0)).out);obtain⟨z0,z1,z2,z3⟩:=q2b ZR.out;have zx:=χ ((blk_st ZR.out 0 (ι 1)).cell 1);have F3:Blk (st2 w0 gZ (ι 1) (ι 0)) gZ 67 (vI 1 0):=st2_blk ZR.out
  have hfin:MadeDr base g ⟨sh,wi,ra,ta,A,B,C,nl,al,sl,c,d,f,nd,ac,sy,some (α gb 0),nb,cb,xs,An,Au,n1,n2,d1,d2,cl,cu,ep,off⟩ (plO ⟨sh,wi,ra,ta,A,B,C,nl,al,sl,c,d,f,nd,ac,sy,some (α gb 0),nb,cb,xs,An,Au,n1,n2,d1,d2,cl,cu,ep,off⟩) 1 0 [] w (.returned (.tuple #[.agg (vI 1 0),.slice none 0 0])) (st2 w0 gZ (ι 1) (ι 0)):=by
   unfold st2;refine madeDr_no (q:=⟨sh,wi,ra,ta,A,B,C,nl,al,sl,c,d,f,nd,ac,sy,some (α gb 0),nb,cb,xs,An,Au,n1,n2,d1,d2,cl,cu,ep,off⟩) (Rm_setz (Rm_setz MR.out MZ.out ZR.out (by decide) 0 _) MZ.out (blk_st ZR.out 0 _) (by decide) 1 _) rfl rfl ?_ (fun z _ h=>Mz_same h) HCQ.out;exact Kp_past (Kp_past UR.out HGZ'.out 0 _) HGZ'.out 1 _
  have HF:=κ hfin;clear hfin
  go_wp2_with fail
  obtain⟨e0,e1,_,_⟩:=q2b F3;clear F3;unfold st2 at e0 e1 HF;exact bodyPost_ret (v:= .tuple #[.agg #[ι 1,ι 0],.slice none 0 0]) (by simp[results,Tryz.results47,go_sem,e0,e1]) rfl (by first|exact HF.out|(rw[HP0.out];exact HF.out))
 have t1:decide (i<0)=false:=by simp only[decide_eq_false_iff_not];exact hlo
 by_cases hhi:i<(nb:Int)
 case neg=>
  have t2:decide ((nb:Int)≤i)=true:=by simp;omega
  have hh':hasF nb i=false:=by rw[hh0];simp;omega
  clear hh0
  go_upto_region 2 with fail
  clear k0 k1 k2 k3 k4 k5 k6 k7 k8 k9 k10 k11 f0 f1 f2 f3 f4 f5 f6 f7 f8 f9 f10 f11 K0;have HP0:Hid (swpF (plO ⟨sh,wi,ra,ta,A,B,C,nl,al,sl,c,d,f,nd,ac,sy,some (α gb 0),nb,cb,xs,An,Au,n1,n2,d1,d2,cl,cu,ep,off⟩) i x=((plO ⟨sh,wi,ra,ta,A,B,C,nl,al,sl,c,d,f,nd,ac,sy,some (α gb 0),nb,cb,xs,An,Au,n1,n2,d1,d2,cl,cu,ep,off⟩),(1,0,[]))):=swp_no HBL.out hh';have MR:=κ (Rm_below M0.out (κ (Below.refl w0.heap.size w0)).out);have ZR:=κ (Blk.below' Z0.out (κ (Below.refl w0.heap.size w0)).out);have UR:Hid (Kp w w0 g (some (α gb 0))):=Kp_of_below (CrdB.below_step U0.out (κ (Below.refl w0.heap.size w0)).out);obtain⟨z0,z1,z2,z3⟩:=q2b ZR.out;have zx:=χ ((blk_st ZR.out 0 (ι 1)).cell 1);have F3:Blk (st2 w0 gZ (ι 1) (ι 0)) gZ 67 (vI 1 0):=st2_blk ZR.out
  have hfin:MadeDr base g ⟨sh,wi,ra,ta,A,B,C,nl,al,sl,c,d,f,nd,ac,sy,some (α gb 0),nb,cb,xs,An,Au,n1,n2,d1,d2,cl,cu,ep,off⟩ (plO ⟨sh,wi,ra,ta,A,B,C,nl,al,sl,c,d,f,nd,ac,sy,some (α gb 0),nb,cb,xs,An,Au,n1,n2,d1,d2,cl,cu,ep,off⟩) 1 0 [] w (.returned (.tuple #[.agg (vI 1 0),.slice none 0 0])) (st2 w0 gZ (ι 1) (ι 0)):=by
   unfold st2;refine madeDr_no (q:=⟨sh,wi,ra,ta,A,B,C,nl,al,sl,c,d,f,nd,ac,sy,some (α gb 0),nb,cb,xs,An,Au,n1,n2,d1,d2,cl,cu,ep,off⟩) (Rm_setz (Rm_setz MR.out MZ.out ZR.out (by decide) 0 _) MZ.out (blk_st ZR.out 0 _) (by decide) 1 _) rfl rfl ?_ (fun z _ h=>Mz_same h) HCQ.out;exact Kp_past (Kp_past UR.out HGZ'.out 0 _) HGZ'.out 1 _
  have HF:=κ hfin;clear hfin
  go_wp2_with fail
  obtain⟨e0,e1,_,_⟩:=q2b F3;clear F3;unfold st2 at e0 e1 HF;exact bodyPost_ret (v:= .tuple #[.agg #[ι 1,ι 0],.slice none 0 0]) (by simp[results,Tryz.results47,go_sem,e0,e1]) rfl (by first|exact HF.out|(rw[HP0.out];exact HF.out))
 case pos=>
  have t2:decide ((nb:Int)≤i)=false:=by simp only[decide_eq_false_iff_not];omega
  have hh:hasF nb i=true:=by rw[hh0];simp;omega
  clear hh0;obtain⟨sN,hsN⟩: ∃k:Nat,i=k:=⟨i.toNat,by omega⟩;subst hsN;have hsNb:sN<nb:=by omega
  have hsx:Hid (sN<xs.length):=by show _<_;rw[←L4.out];exact hsNb
  have RM2:=own_room M0.out.row;have c0:=RM2.2.2.2.2.2 (sN*4) _ (by have:=bxs_get xs sN 0 hsx.out (by decide);exact this);have c1:=RM2.2.2.2.2.2 (sN*4+1) _ (by have:=bxs_get xs sN 1 hsx.out (by decide);exact this);have c2:=RM2.2.2.2.2.2 (sN*4+2) _ (by have:=bxs_get xs sN 2 hsx.out (by decide);exact this);have c3:=RM2.2.2.2.2.2 (sN*4+3) _ (by have:=bxs_get xs sN 3 hsx.out (by decide);exact this);clear RM2;have BM0:=κ (M0.out.bm sN hsx.out);have VB:=κ (V9.out sN hsx.out)
  have HGB:Hid (gB (plO ⟨sh,wi,ra,ta,A,B,C,nl,al,sl,c,d,f,nd,ac,sy,some (α gb 0),nb,cb,xs,An,Au,n1,n2,d1,d2,cl,cu,ep,off⟩).bs sN=(gX xs sN).b):=by
   show(xs.map Bx.b).getD sN bk0=_;have h1:=hsx.out;simp[gX,h1]
  obtain⟨X,hX⟩:=ν (gX xs sN);rw[←hX]at HGB;simp only at BM0 VB;rw[←hX]at c0 c1 c2 c3 BM0 VB;have HX:=κ hX;clear hX;obtain⟨XA,XC,xc,xd,xrl,xb⟩:=X;obtain⟨bsh,hbsh⟩:=ν xb.sh;obtain⟨bca,hbca⟩:=ν xb.ca;obtain⟨nr2,hnr2⟩:=ν xb.rows.length;obtain⟨no2,hno2⟩:=ν xb.op.length;simp only[bxV,List.getElem?_cons_zero,List.getElem?_cons_succ]at c0 c1 c2 c3;have HSHB:Hid (bsh=xb.sh∧bca=xb.ca):=⟨hbsh,hbca⟩;have HNR2:=κ hnr2;have HNO2:=κ hno2;simp only at VB BM0 HGB;have FEW:=κ (VB.out.1.few (by omega));rw[←hbsh]at c0;rw[←hbca]at c1;rw[←hnr2]at c2;rw[←hno2]at c3;clear hbsh hbca hnr2 hno2;have tsn:decide ((sN:Int)<(nb:Int))=true:=by simp;omega
  have CX:=rsweep_any bsh bca XA XC nr2 no2 xc xd xrl xb x w0 HSHB HNR2 HNO2 BM0 (by rw[HNR2.out];exact FEW.out.rl) (by rw[HNO2.out];exact FEW.out.ol);have HCY:=κ (swp_yes (ep:=x) HBL.out hh HGB.out);obtain⟨NB,hNB⟩:=ν (sweepF xb x);obtain⟨IDS,hIDS⟩:=ν (swI x xb.op);obtain⟨nI,hnI⟩:=ν IDS.length
  have hnI9:nI≤1000:=by
   rw[hnI,hIDS];have h1:=swI_le x xb.op;have h2:=FEW.out.ol;omega
  obtain⟨nsh,hnsh⟩:=ν NB.sh;obtain⟨nca,hnca⟩:=ν NB.ca;obtain⟨nr7,hnr7⟩:=ν NB.rows.length;obtain⟨no7,hno7⟩:=ν NB.op.length;unfold MadeRs at CX;rw[←hNB,←hIDS]at CX;rw[←hNB,←hIDS]at HCY
  have hbk: ∀A7 C7 c7 d7,bkA A7 C7 c7 d7 NB= .agg (vB nsh nca A7 nr7 c7 C7 no7 d7):=by
   intro A7 C7 c7 d7;unfold bkA;rw[hnsh,hnca,hnr7,hno7]
  simp only[hbk,←hnI]at CX;have HNI:=κ hnI;have HN7:Hid (nsh=NB.sh∧nca=NB.ca∧nr7=NB.rows.length∧no7=NB.op.length):=⟨hnsh,hnca,hnr7,hno7⟩;clear hNB hIDS hnI hnsh hnca hnr7 hno7 hbk
  go_upto_region 3 with fail
  go_wp2_with fail
  refine CX.mono ?_;rintro e w2 ⟨A7,C7,c7,d7,Ai,ci,rfl,hm7,hf7,hcp7,hri,hfi,hb7⟩;obtain⟨rl7,hrl7⟩:=ν xrl;have NW7:Hid (Nw w0.heap.size xrl A7 C7 rl7):=by rw[hrl7];exact hf7
  have CP7:=κ hcp7;rw[←hrl7]at hm7;clear hrl7;have U3:=β w2 (.cells (vB nsh nca A7 nr7 c7 C7 no7 d7) 110);have V3:=κ (Blk.fresh w2 110 (vB nsh nca A7 nr7 c7 C7 no7 d7));have HB7:=κ (CrdB.below_step hb7 U3);have N7:=κ (hm7.below U3);have I7:=η hri U3;have HFI:=κ hfi;have HVL:=κ hb7.size;clear hm7 hf7 hcp7 hb7 hri hfi U3 CX
  go_upto_region 4 with fail
  clear k0 k1 k2 k3 k4 k5 k6 k7 k8 k9 k10 k11 f0 f1 f2 f3 f4 f5 f6 f7 f8 f9 f10 f11 c0 c1 c2 c3 K0;obtain⟨gV,hgV⟩:=ν w2.heap.size;have V7:=κ (ζ hgV V3.out);have HVL:Hid (w0.heap.size≤gV):=by rw[hgV];exact HVL.out
  simp only[←hgV];clear hgV V3;generalize w2.alloc (.cells (vB nsh nca A7 nr7 c7 C7 no7 d7) 110)=w3 at HB7 N7 V7 I7 ⊢;have HFB:Hid (w0.heap.size≤w0.heap.size):=τ;have HFI2:Hid (Far g (some (α gb 0)) Ai (ints IDS)):=Far_new (base:=w0.heap.size) (Rm_lt M0.out).1 (Rm_lt M0.out).2 HFI.out;have I79:Hid (Ris ((((w3.drew.setCell (α gb (sN*4)) (ι nsh)).setCell (α gb (sN*4+1)) (ι nca)).setCell (α gb (sN*4+2)) (.slice A7 nr7 c7)).setCell (α gb (sN*4+3)) (.slice C7 no7 d7)) ((((w3.drew.setCell (α gb (sN*4)) (ι nsh)).setCell (α gb (sN*4+1)) (ι nca)).setCell (α gb (sN*4+2)) (.slice A7 nr7 c7)).setCell (α gb (sN*4+3)) (.slice C7 no7 d7)).heap.size Ai IDS):=Rd_setb (Rd_setb (Rd_setb (Rd_setb (show Ris w3.drew w3.drew.heap.size Ai IDS from I7.out) HFI2.out _ _) HFI2.out _ _) HFI2.out _ _) HFI2.out _ _;have HBd:=κ (Below.drew HB7.out);have Md:=κ (Rm_below M0.out HBd.out);have V7d:=κ (ε V7.out);have LT0:=κ (Rm_lt M0.out);have hgb0:=κ (ξ (LT0.out.2 (α gb 0) rfl));have h0f:=κ HFB.out;have RMhh:=own_room Md.out.row;have hh0:=RMhh.2.2.2.2.2 (sN*4) _ (by have:=bxs_get xs sN 0 hsx.out (by decide);rw[←HX.out]at this;exact this);have hh1:=RMhh.2.2.2.2.2 (sN*4+1) _ (by have:=bxs_get xs sN 1 hsx.out (by decide);rw[←HX.out]at this;exact this);have hh2:=RMhh.2.2.2.2.2 (sN*4+2) _ (by have:=bxs_get xs sN 2 hsx.out (by decide);rw[←HX.out]at this;exact this);have hh3:=RMhh.2.2.2.2.2 (sN*4+3) _ (by have:=bxs_get xs sN 3 hsx.out (by decide);rw[←HX.out]at this;exact this);simp only[bxV,List.getElem?_cons_zero,List.getElem?_cons_succ]at hh0 hh1 hh2 hh3;rw[←HSHB.out.1]at hh0;rw[←HSHB.out.2]at hh1;rw[←HNR2.out]at hh2;rw[←HNO2.out]at hh3;clear RMhh;have RMf:=own_room Md.out.row;have hcb:=ξ RMf.2.2.1;have hf0:=(RMf.2.2.2.2.1 (sN*4) (show sN*4<cb*4 by omega)).2;have hf1:=(RMf.2.2.2.2.1 (sN*4+1) (show sN*4+1<cb*4 by omega)).2;have hf2:=(RMf.2.2.2.2.1 (sN*4+2) (show sN*4+2<cb*4 by omega)).2;have hf3:=(RMf.2.2.2.2.1 (sN*4+3) (show sN*4+3<cb*4 by omega)).2;clear RMf hcb;have hd1:=ω (α gb (sN*4)) (ι nsh) hh1;have he1:=φ (α gb (sN*4)) (ι nsh) hf1;have hd2:=ω (α gb (sN*4+1)) (ι nca) (ω (α gb (sN*4)) (ι nsh) hh2);have he2:=φ (α gb (sN*4+1)) (ι nca) (φ (α gb (sN*4)) (ι nsh) hf2);have hd3:=ω (α gb (sN*4+2)) (.slice A7 nr7 c7) (ω (α gb (sN*4+1)) (ι nca) (ω (α gb (sN*4)) (ι nsh) hh3));have he3:=φ (α gb (sN*4+2)) (.slice A7 nr7 c7) (φ (α gb (sN*4+1)) (ι nca) (φ (α gb (sN*4)) (ι nsh) hf3));let T231:World→Prop:=fun w'=>w'.cell? (α g 7)=some (.slice (some (α gb 0)) nb cb)∧w'.cell? (α gV 0)=some (ι nsh)∧w'.cell? (α gV 1)=some (ι nca)∧w'.cell? (α gV 2)=some (.slice A7 nr7 c7)∧w'.cell? (α gV 3)=some (.slice C7 no7 d7)
  have HT:Hid (T231 (w3.drew)):=⟨Md.out.blk.cell 7,V7d.out.cell 0,V7d.out.cell 1,V7d.out.cell 2,V7d.out.cell 3⟩
  have M9:Hid (Rm base ((((w3.drew.setCell (α gb (sN*4)) (ι nsh)).setCell (α gb (sN*4+1)) (ι nca)).setCell (α gb (sN*4+2)) (.slice A7 nr7 c7)).setCell (α gb (sN*4+3)) (.slice C7 no7 d7)) g ⟨sh,wi,ra,ta,A,B,C,nl,al,sl,c,d,f,nd,ac,sy,some (α gb 0),nb,cb,xs.set sN ⟨A7,C7,c7,d7,rl7,NB⟩,An,Au,n1,n2,d1,d2,cl,cu,ep,off⟩):=by
   have h9:=Rm_book Md.out rfl (i:=sN) hsx.out (x:=⟨A7,C7,c7,d7,rl7,NB⟩) (show Bm w3.drew A7 C7 rl7 NB from⟨N7.out.r,N7.out.e,N7.out.n,N7.out.o⟩) (farX_nw (B:=w0.heap.size) NW7.out (show FarX g _ ⟨XA,XC,xc,xd,xrl,xb⟩ from by have h8:=Md.out.fx sN hsx.out;rw[←HX.out]at h8;exact h8) (by have:=LT0.out.1;have:=h0f.out;omega) (fun b hb=>by have:=LT0.out.2 b hb;have:=h0f.out;omega));simp only[←HN7.out.1,←HN7.out.2.1,←HN7.out.2.2.1,←HN7.out.2.2.2]at h9;exact h9
  have hZb:Hid (gZ≠gb):=fun e=>blk_own_ne Z0.out M0.out.row (by decide) (by rw[e];rfl)
  have Z9:Hid (Blk ((((w3.drew.setCell (α gb (sN*4)) (ι nsh)).setCell (α gb (sN*4+1)) (ι nca)).setCell (α gb (sN*4+2)) (.slice A7 nr7 c7)).setCell (α gb (sN*4+3)) (.slice C7 no7 d7)) gZ 67 (vI 0 0)):=(far_st (far_st (far_st (far_st (show Blk w3.drew gZ 67 (vI 0 0) from Blk.below' Z0.out HBd.out) hZb.out _) hZb.out _) hZb.out _) hZb.out _);have KP9:Hid (Kp w ((((w3.drew.setCell (α gb (sN*4)) (ι nsh)).setCell (α gb (sN*4+1)) (ι nca)).setCell (α gb (sN*4+2)) (.slice A7 nr7 c7)).setCell (α gb (sN*4+3)) (.slice C7 no7 d7)) g (some (α gb 0))):=Kp_setb (Kp_setb (Kp_setb (Kp_setb (Kp_of_below (CrdB.below_step U0.out HBd.out)) _ _) _ _) _ _) _ _
  have HMZ9:Hid (∀z,z<w.heap.size→Mz z g ⟨sh,wi,ra,ta,A,B,C,nl,al,sl,c,d,f,nd,ac,sy,some (α gb 0),nb,cb,xs,An,Au,n1,n2,d1,d2,cl,cu,ep,off⟩→Mz z g ⟨sh,wi,ra,ta,A,B,C,nl,al,sl,c,d,f,nd,ac,sy,some (α gb 0),nb,cb,xs.set sN ⟨A7,C7,c7,d7,rl7,NB⟩,An,Au,n1,n2,d1,d2,cl,cu,ep,off⟩):=by
   intro z hz hmz;have hw0:=U0.out.size;exact Mz_book hmz (i:=sN) hsx.out (x:=⟨A7,C7,c7,d7,rl7,NB⟩) (fzB_nw (B:=w0.heap.size) NW7.out (show FzB z ⟨XA,XC,xc,xd,xrl,xb⟩ from by have h8:=hmz.zx sN hsx.out;rw[←HX.out]at h8;exact h8) (by have:=h0f.out;omega))
  have MZ9:=κ (ξ (Mz_book MZ.out (i:=sN) hsx.out (x:=⟨A7,C7,c7,d7,rl7,NB⟩) (fzB_nw (B:=w0.heap.size) NW7.out (show FzB gZ ⟨XA,XC,xc,xd,xrl,xb⟩ from by have h8:=MZ.out.zx sN hsx.out;rw[←HX.out]at h8;exact h8) (by have:=Z0.out.lt;have:=h0f.out;omega))));have HCQ9:Hid (Cq ⟨sh,wi,ra,ta,A,B,C,nl,al,sl,c,d,f,nd,ac,sy,some (α gb 0),nb,cb,xs.set sN ⟨A7,C7,c7,d7,rl7,NB⟩,An,Au,n1,n2,d1,d2,cl,cu,ep,off⟩):=Cq_set HCQ.out sN ⟨A7,C7,c7,d7,rl7,NB⟩ hsx.out CP7.out
  go_upto_region 4 with fail
  refine Ω T231 [7] ?_;generalize w3.drew=w8 at HBd Md V7d hh0 hh1 hh2 hh3 hf0 hf1 hf2 hf3 hd1 hd2 hd3 he1 he2 he3 HT M9 Z9 KP9 I79 I7 N7 ⊢;refine jA 0 HT.out ?_;refine jA 1 HT.out ?_;refine jA 2 HT.out ?_;refine jB 3 HT.out ?_;refine jA 4 HT.out ?_;refine jB 5 HT.out ?_;refine jA 6 HT.out ?_;refine jV 7 fun K' hK=>?_
  go_simp;refine hK.out _ _ ?_;clear hK K';refine jP ?_;refine Δ ?_;clear hh0 hh1 hh2 hh3 hf0 hf1 hf2 hf3 hd1 hd2 hd3 he1 he2 he3 HT V7d Md HBd
  go_upto_region 5 with fail
  generalize ((((w8.setCell (α gb (sN*4)) (ι nsh)).setCell (α gb (sN*4+1)) (ι nca)).setCell (α gb (sN*4+2)) (.slice A7 nr7 c7)).setCell (α gb (sN*4+3)) (.slice C7 no7 d7))=w9 at M9 Z9 KP9 I79 ⊢;obtain⟨i0,hi0,hz0,hz1,hz2⟩:=info_parts infoOut
  go_upto_region 6 with fail
  go_wp2_with fail
  go_loopg [10,11] nI (fun g s10 s44 w'=> ∃(j:Nat) (Ao:Option Addr) (no co:Nat),j+g=nI∧s10= .slice Ao no co∧s44= ι j∧Hid (no=j)∧Hid (w'.ownsRow w9.heap.size 136 2 (.slice Ao no co) no (nds (outC (IDS.take j))))∧Hid (Below w9.heap.size w9 w'))
  case atStart=>exact⟨0,none,0,0,by omega,rfl,rfl,rfl,(by show World.ownsRow _ _ _ _ _ _ [];exact World.ownsRow_nil _ _ _ _),Below.refl _ _⟩
  case round=>
   obtain⟨j,Ao,no,co,hg0,rfl,rfl,HNO,OW,HBr⟩:=hrel;by_cases hlt:j<nI
   ·obtain⟨g9,rfl⟩: ∃g9,gk=g9+1:=⟨gk-1,by omega⟩;have t0:decide ((j:Int)<(nI:Int))=true:=by simp;omega
    have hjl:j<IDS.length:=by rw[←HNI.out];exact hlt
    obtain⟨b9,o9,hA9,hlt9,hc9⟩:=Ris.at (i:=j) I79.out hjl;subst hA9;have hcr:=(HBr.out.cell (p:=(α b9 (o9+j))) hlt9).trans (hc9 j hjl);obtain⟨nj,hnj⟩:=ν (no+1);have HNJ:=κ hnj;clear hnj;have V0:=β wr (.cells (vI 1 (gI IDS j)) 136);have V1:=own_below OW V0;have V2:Hid (Rd (wr.alloc (.cells (vI 1 (gI IDS j)) 136)) (wr.alloc (.cells (vI 1 (gI IDS j)) 136)).heap.size (some (α wr.heap.size 0)) [ι 1,ι (gI IDS j)]):=rd_new rfl;have V3:=κ (CrdB.below_step HBr.out V0);have V4:=V3.out.size;have hno9:no≤1000:=by have:=HNO.out;omega
    go_wp2_with (at_builtin;go_loud (refine wpList_appR (nm:=nj) V1 V3.out V2 HNJ.out rfl _ _ _ rfl i0 (.agg #[.int .i64 0,.int .i64 0]) 16 Tryz.underlying68 hi0 hz0 hz1 hz2 rfl (by decide) rfl rfl (by simp) (by simp[Value.oneCell']) (by unfold maxLen;omega) (by omega) τ V4 V4 ?_);intro A6 c6 w7 hown1 hbel1 hsz1)
    have O7:Hid (w7.ownsRow w9.heap.size 136 2 (.slice A6 nj c6) nj (nds (outC (IDS.take (j+1))))):=by
     rw[outC_snoc IDS j hjl,nds_snoc];exact hown1.out
    have B7:=κ hbel1;have HN9:Hid (nj=j+1):=by show _=_;rw[HNJ.out,HNO.out]
    clear hown1 hbel1 hsz1 V0 V1 V2 V3 V4 hcr hc9
    go_roundg g9
    case measure=>omega
    case rel=>exact⟨j+1,A6,nj,c6,by omega,rfl,by rw[Int.natCast_add];rfl,HN9,O7,B7⟩
   ·have t0:decide ((j:Int)<(nI:Int))=false:=by simp;omega
    have hjn:j=nI:=by omega
    have hall:Hid (IDS.take j=IDS):=by show _=_;rw[hjn,HNI.out,List.take_length]
    have O9:=OW.out;rw[hall.out]at O9;have N9:Hid (Nds wr wr.heap.size Ao (outC IDS)):=Rd.of_own O9;have F9:=κ (fun a ha=>Tre.own_fresh O9 a ha);have M11:=κ (Rm_below M9.out HBr.out);have Z11:=κ (Blk.below' Z9.out HBr.out);have KP11:=κ (Kp_step KP9.out HBr.out);have hZl:=Z9.out.lt;have hwl:=κ KP9.out.size;have hno:Hid (no=(outC IDS).length):=by show _=_;rw[HNO.out,hjn,HNI.out];unfold outC;rw[List.length_map]
    have F3:Blk (st2 wr gZ (ι 0) (ι (nI:Int))) gZ 67 (vI 0 (nI:Int)):=st2_blk Z11.out
    have HEQ:swpF (plO ⟨sh,wi,ra,ta,A,B,C,nl,al,sl,c,d,f,nd,ac,sy,some (α gb 0),nb,cb,xs,An,Au,n1,n2,d1,d2,cl,cu,ep,off⟩) (sN:Int) x=(plO ⟨sh,wi,ra,ta,A,B,C,nl,al,sl,c,d,f,nd,ac,sy,some (α gb 0),nb,cb,xs.set sN ⟨A7,C7,c7,d7,rl7,NB⟩,An,Au,n1,n2,d1,d2,cl,cu,ep,off⟩,(0,(nI:Int),outC IDS)):=by
     rw[HCY.out,←HNI.out];unfold plO;simp only[List.map_set]
    have hfin:MadeDr base g ⟨sh,wi,ra,ta,A,B,C,nl,al,sl,c,d,f,nd,ac,sy,some (α gb 0),nb,cb,xs,An,Au,n1,n2,d1,d2,cl,cu,ep,off⟩ (plO ⟨sh,wi,ra,ta,A,B,C,nl,al,sl,c,d,f,nd,ac,sy,some (α gb 0),nb,cb,xs.set sN ⟨A7,C7,c7,d7,rl7,NB⟩,An,Au,n1,n2,d1,d2,cl,cu,ep,off⟩) 0 (nI:Int) (outC IDS) w (.returned (.tuple #[.agg (vI 0 (nI:Int)),.slice Ao no co])) (st2 wr gZ (ι 0) (ι (nI:Int))):=by
     unfold st2;refine⟨⟨sh,wi,ra,ta,A,B,C,nl,al,sl,c,d,f,nd,ac,sy,some (α gb 0),nb,cb,xs.set sN ⟨A7,C7,c7,d7,rl7,NB⟩,An,Au,n1,n2,d1,d2,cl,cu,ep,off⟩,Ao,no,co,rfl,hno.out,?_,?_,Rm_setz (Rm_setz M11.out MZ9.out Z11.out (by decide) 0 _) MZ9.out (blk_st Z11.out 0 _) (by decide) 1 _,rfl,rfl,Kp_past (Kp_past KP11.out HGZ'.out 0 _) HGZ'.out 1 _,HMZ9.out,HCQ9.out⟩
     ·exact Rd.keep' (Rd.keep' N9.out (Nat.lt_succ_self _) (fun a ha=>by have:=F9.out a ha;omega) _) (Nat.lt_succ_self _) (fun a ha=>by have:=F9.out a ha;omega) _
     ·intro a ha;exact Nat.le_trans hwl.out (F9.out a ha)
    have HF:=κ hfin;have HEQ:=κ HEQ;clear hfin O9;obtain⟨z0,z1,z2,z3⟩:=q2b Z11.out;have zx:=χ ((blk_st Z11.out 0 (ι 0)).cell 1)
    go_wp2_with fail
    obtain⟨e0,e1,_,_⟩:=q2b F3;clear F3;unfold st2 at e0 e1 HF;exact bodyPost_ret (v:= .tuple #[.agg #[ι 0,ι (nI:Int)],.slice Ao no co]) (by simp[results,Tryz.results47,go_sem,e0,e1]) rfl (by first|exact HF.out|(rw[HEQ.out];exact HF.out))
end Rms
end Go.Proofs.YtfbajlcljfjbkaaGreat
