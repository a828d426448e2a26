/- Texts side by side. -/
import Derived.Deep.Fields
import Derived.SizedLaws
import Derived.Test.YtcccdikhfgpamaaGreatUfbc
import Derived.Test.YtcccdikhfgpamaaGreatUfbj
import Derived.Test.YtcccdikhfgpamaaGreatUfbn
import Derived.Test.YtcccdikhfgpamaaGreatUfbp
set_option linter.unusedVariables false
set_option linter.unusedSimpArgs false
set_option maxRecDepth 100000
set_option maxHeartbeats 16000000
namespace Go.Proofs.YtcccdikhfgpamaaGreat
open Kap Go.ChangeShapes Go.WideShapes Go.RowKit Mem
namespace Lac
open Go.ChangeAt Tre Ref3 Law3 Fix3 Cfg Crd CrdB CrdC St7 Fcf Fown Rul7 Tl5 Gdc Bkp Bks Bkf Bcl Dlk Stk Apt Bko Bku Bka Bkc Bkq Wpl Mdd Mdq Mde Rmp Mdp
open Mdz (Mz FarE FzB Mz_of)
open Mds (Pm plO)
variable {q qo:Mq} {b2 base bo g h:Nat} {w w':World}
structure Iv(w0 w:World)(base base' gm gr bm br:Nat)(P P':Pm)(qm qr:Mq):Prop where
 M:Mm base w gm qm
 R:Rm base' w gr qr
 pm:plO qm=P
 pr:plO qr=P'
 cq:Cq qr
 am:qm.Ab=some ⟨bm,0,none⟩
 ar:qr.Ab=some ⟨br,0,none⟩
 z1:Mz gm gr qr
 z2:Mz bm gr qr
 z3:Mz gr gm qm
 z4:Mz br gm qm
 b:Below w0.heap.size w0 w
 hb:w0.heap.size≤base
 hb':w0.heap.size≤base'
section
variable {w0 w w':World} {base base' gm gr bm br:Nat} {P P' P1:Pm} {qm qr q':Mq}
theorem Iv.below(h:Iv w0 w base base' gm gr bm br P P' qm qr)(hb:Below w.heap.size w w'):Iv w0 w' base base' gm gr bm br P P' qm qr:=
 ⟨Mm_below h.M hb,Rm_below h.R hb,h.pm,h.pr,h.cq,h.am,h.ar,h.z1,h.z2,h.z3,h.z4,CrdB.below_step h.b hb,h.hb,h.hb'⟩
theorem Iv.lt(h:Iv w0 w base base' gm gr bm br P P' qm qr):gm<w.heap.size∧bm<w.heap.size∧gr<w.heap.size∧br<w.heap.size:=
 ⟨(Mm_lt h.M).1,(Mm_lt h.M).2 ⟨bm,0,none⟩ h.am,(Rm_lt h.R).1,(Rm_lt h.R).2 ⟨br,0,none⟩ h.ar⟩
theorem below_kpr{w0:World}(hb:Below w0.heap.size w0 w)(M:Rm base w g q)(k:Kp w w' g q.Ab)(hbase:w0.heap.size≤base):Below w0.heap.size w0 w':=by
 refine⟨k.os.trans hb.os,k.tape.trans hb.tape,k.output.trans hb.output,Nat.le_trans hb.size k.size,fun i c=>?_⟩;have d:=M.gb;refine(k.block i (Nat.lt_of_lt_of_le c hb.size) (by omega) (fun b a=>?_)).trans (hb.block i c);have e:=(World.ownsRow.lt M.row b.block (by rw[a];rfl)).1;omega
theorem blk_dor{z:Nat}{te:TypeId}{cs:Array Value}(h:Blk w z te cs)(M:Rm base w g q)(h1:te≠118)(h2:te≠122)(k:Kp w w' g q.Ab):Blk w' z te cs:=
 (k.block z h.lt (blk_ne h M.blk h1) (fun b a e=>blk_own_ne h M.row h2 (by rw[a,e];rfl))).trans h
end
def MadeGd(w:World)(e:Ending)(w':World):Prop:= ∃sh wi ra ta nd ac sy,GoodC sh wi ra ta nd ac sy∧Okt nd∧MadeCf sh wi ra ta nd ac sy w e w'
theorem fixd_any(sh wi ra ta:Int)(A B C:Option Addr)(c d f:Nat)(nd:List (Int×Int))(ac:List Int)(sy:List (Int×Int×Int×Nat))(w:World)
  (hl:Hid (Nds w w.heap.size A nd))(hu:Hid (Ris w w.heap.size B ac))(hs:Hid (Smb w w.heap.size C sy))(hw:Hid (WfN nd))(hwa:Hid (WfI ac))(hws:Hid (WfS sy))(hmax:(nd.length:Int)≤4611686018427387904)(hmay:(ac.length:Int)≤4611686018427387904)(hmaz:(sy.length:Int)≤4611686018427387904):
  Calls Tryz.prog 5 #[.agg #[.int .i64 sh,.int .i64 wi,.int .i64 ra,.int .i64 ta,.slice A nd.length c,.slice B ac.length d,.slice C sy.length f]] w (MadeGd w):=
 (fix5_any sh wi ra ta A B C c d f nd ac sy w hl hu hs hw hwa hws hmax hmay hmaz).mono fun e w' h=>⟨_,_,_,_,_,_,_,good_fix sh wi ra ta nd ac sy hws.o,okt_fixF nd,h⟩
end Lac
namespace Lst
open Go.ChangeAt Tre Ref3 Law3 Fix3 Cfg Crd CrdB CrdC St7 Bkp Bks Bkf Bcl Dlk Stk Apt Bko Bku Bka Bkc Bkq Wpl Mdd Mdq Mde Rmp Lac Mdp
open Mdz (Mz FarE FzB Mz_of FarE_of)
open Mds (Pm plO)
open Mdg (bgnP)
open Mdn (hasF)
theorem do_outs{m:Nat}{p:Pm}(h:Vp m p)(hm:m≤900)(o:Opn):(doF p o).2.2.2.length≤1000:=by
 unfold doF;split
 ·unfold Mdy.swpF;split
  ·rename_i h1
   have a:0≤o.sx∧o.sx<(p.bs.length:Int):=by simpa[hasF] using h1
   have b:=((h.bk _ (Mdq.gB_mem (i:=o.sx.toNat) (by omega))).1.1.few (by omega)).ol;have c:=List.length_filter_le (Bkw.swC o.ex) (Mdo.gB p.bs o.sx.toNat).op;show(Mdy.outC _).length≤1000;simp only[Mdy.outC,Bkw.swI,List.length_map];omega
  ·exact Nat.zero_le _
 ·split
  ·exact Nat.zero_le _
  ·split
   ·unfold Mdo.ordF;repeat' split
    all_goals simp
   ·split
    ·unfold Mdk.canF;repeat' split
     all_goals simp
    ·split
     ·unfold Mdj.filF;repeat' split
      all_goals simp
     ·split
      ·unfold Mdj.akF;repeat' split
       all_goals simp
      ·split
       ·exact Nat.zero_le _
       ·split
        ·exact Nat.zero_le _
        ·unfold Mdl.lmtF;repeat' split
         all_goals simp
end Lst
namespace Opc
open Opn Cfg Go.Joins Go.Deep
variable {held:Bool} {p:List MemPlace} {b0 base n:Nat} {t:TypeId} {v:Value} {w:World}
section
variable {H:Type} {enc:TypeId×Value→H} {P:Program} {w:World} {base:Nat} {spare:Nat→Bool} {held:Bool}
end
section
variable {H:Type} {enc:TypeId×Value→H} {P:Program} {w:World}
theorem u64_bd{a:Int}(h:(Lit.int .u64 a).wf=true):0≤a∧a<18446744073709551616:=by
 simp[Lit.wf]at h;have e:IntKind.u64.max=18446744073709551615:=rfl;have b:IntKind.u64.min=0:=rfl;have c:a≤IntKind.u64.max:=by first|exact h.2|exact h
 have d:IntKind.u64.min≤a:=by first|exact h.1|exact h
 omega
theorem open_fours{e:TypeId}{f0 f1 f2 f3:Field}{fuel:Nat}{x:DataW H×List MemPlace}(ht:P.underlying t=some (.slice e))(he:P.underlying e=some (.struct #[f0,f1,f2,f3]))(ce:P.cellsOf e=4)(o0:f0.offset=0)(o1:f1.offset=1)(o2:f2.offset=2)(o3:f3.offset=3)
  (c0:P.cellsOf f0.type=1)(c1:P.cellsOf f1.type=1)(c2:P.cellsOf f2.type=1)(c3:P.cellsOf f3.type=1)(u0:P.underlying f0.type=some (.int .i64))(u1:P.underlying f1.type=some (.int .i64))(u2:P.underlying f2.type=some (.int .i64))(u3:P.underlying f3.type=some (.int .u64))
  (hf:DataW.trod enc P w base (fun _=>true) held fuel t [v]=some x):
  ∃A c l,v= .slice A l.length c∧l.length≤c∧c≤maxLen∧Btb w w.heap.size A l∧WfS l:=by
 rcases Go.Deep.open_slice ht hf with⟨o,_⟩|⟨a,len,E,m,n,D,Pl,o,hb,hl,hm,F,_,C⟩
 ·injection o with o
  exact⟨none,0,[],o,by simp,by unfold maxLen;omega,.inl rfl,fun i s=>by simp at s⟩
 ·injection o with o
  subst o;have G:m=E:=by rw[F];simp
  subst G
  have I: ∀i,i<m→ ∃q:Int×Int×Int×Nat,w.cell? (a.add (i*4))=some (.int .i64 q.1)∧w.cell? (a.add (i*4+1))=some (.int .i64 q.2.1)∧w.cell? (a.add (i*4+2))=some (.int .i64 q.2.2.1)∧w.cell? (a.add (i*4+3))=some (.int .u64 (q.2.2.2:Int))∧inI q.1∧inI q.2.1∧inI q.2.2.1∧q.2.2.2<18446744073709551616:=by
   intro i s;obtain⟨J,X,h2⟩:=C i s;rw[ce]at X;obtain⟨_,b,d⟩:=World.cells?_some X;obtain⟨xs,k,hk,aa,_,K,g⟩:=DataW.trod_struct he h2
   match xs,K,J,b with
   |[y0,y1,y2,y3],_,[v0,v1,v2,v3],_=>
    have Y:=g 0 f0 rfl;have Z:=g 1 f1 rfl;have g2:=g 2 f2 rfl;have g3:=g 3 f3 rfl;simp[o0,o1,o2,o3,c0,c1,c2,c3]at Y Z g2 g3;have e0:=d 0 (by omega);have e1:=d 1 (by omega);have e2:=d 2 (by omega);have e3:=d 3 (by omega);rw[Go.Deep.add_add]at e0 e1 e2 e3;obtain⟨x,C,_,wx⟩:=DataW.trod_int u0 Y;obtain⟨y,hy,_,wy⟩:=DataW.trod_int u1 Z;obtain⟨z,hz,_,wz⟩:=DataW.trod_int u2 g2;obtain⟨u,hu,_,wu⟩:=DataW.trod_int u3 g3;simp at C hy hz hu;subst C hy hz hu;obtain⟨z0,z1⟩:=u64_bd wu;have eu:((u.toNat:Nat):Int)=u:=by omega
    exact⟨(x,y,z,u.toNat),by simpa using e0,by simpa using e1,by simpa using e2,by rw[eu];simpa using e3,wf_in wx,wf_in wy,wf_in wz,by show u.toNat<_;omega⟩
  obtain⟨f,h⟩:=Go.Deep.choose_lt I;have b:((List.range len).map f).length=len:=by simp
  have tk: ∀i,i<len→sP ((List.range len).map f) i=(f i).1∧sQ ((List.range len).map f) i=(f i).2.1∧sW ((List.range len).map f) i=(f i).2.2.1∧sB ((List.range len).map f) i=(f i).2.2.2:=fun i s=>by simp[sP,sQ,sW,sB,s]
  refine⟨some a,m,(List.range len).map f,by rw[b],by rw[b];exact hl,hm,?_,?_⟩
  ·by_cases h0:len=0
   ·subst h0;exact .inl (by simp[btbs])
   ·obtain⟨ab,ao,L⟩:=a
    have hs:L=none:=by
     have:=(h 0 (by omega)).1;rw[Nat.zero_mul]at this;exact spot_none this
    subst hs;refine .inr ⟨ab,ao,rfl,?_,?_⟩
    ·have:=blk_lt (h 0 (by omega)).1;simpa[Addr.add] using this
    ·intro i v hv
     have r:i<len*4:=by
      have:=(List.getElem?_eq_some_iff.1 hv).1;rwa[btbs_len,b]at this
     have j:=btbs_get ((List.range len).map f) (i / 4) (by rw[b];omega);obtain⟨O,Q,R,S,_⟩:=h (i / 4) (by omega);obtain⟨T,U,V,W⟩:=tk (i / 4) (by omega);rw[T,U,V,W]at j;rw[add_lit']at O Q R S;rcases(by omega:i%4=0∨i%4=1∨i%4=2∨i%4=3) with k|k|k|k
     ·have e:i / 4*4=i:=by omega
      rw[e]at j O;rw[j.1]at hv;injection hv with hv
      rw[O,hv]
     ·have e:i / 4*4+1=i:=by omega
      rw[e]at j Q;rw[j.2.1]at hv;injection hv with hv
      rw[Q,hv]
     ·have e:i / 4*4+2=i:=by omega
      rw[e]at j R;rw[j.2.2.1]at hv;injection hv with hv
      rw[R,hv]
     ·have e:i / 4*4+3=i:=by omega
      rw[e]at j S;rw[j.2.2.2]at hv;injection hv with hv
      rw[S,hv]
  ·intro i r;rw[b]at r;obtain⟨_,_,_,_,s0,s1,s2,s3⟩:=h i (by omega);obtain⟨T,U,V,W⟩:=tk i r;rw[T,U,V,W];exact⟨s0,s1,s2,s3⟩
theorem one_int{y:DataW H×List MemPlace}{spare:Nat→Bool}(hu:P.underlying t=some (.int .i64))(h:DataW.trod enc P w base spare held n t [v]=some y): ∃x:Int,v= .int .i64 x∧inI x:=by
 obtain⟨x,a,_,b⟩:=DataW.trod_int hu h;simp at a;exact⟨x,a,wf_in b⟩
theorem one_bool{y:DataW H×List MemPlace}{spare:Nat→Bool}(hu:P.underlying t=some .bool)(h:DataW.trod enc P w base spare held n t [v]=some y): ∃x:Bool,v= .bool x:=by
 obtain⟨x,a,_⟩:=DataW.trod_bool hu h;simp at a;exact⟨x,a⟩
end
end Opc
namespace Lro
open Opn Opc Wpl Wmr Go.Joins Go.Deep
structure Rw where
 m:M
 wh:Int
 sw:Bool
 sx:Int
 ex:Int
def V16(w:World)(b o:Nat)(r:Rw):Prop:=
 w.cell? ⟨b,o,none⟩=some (.int .i64 r.m.k)∧w.cell? ⟨b,o+1,none⟩=some (.int .i64 r.m.a)∧w.cell? ⟨b,o+2,none⟩=some (.int .i64 r.m.s)∧w.cell? ⟨b,o+3,none⟩=some (.bool r.m.x)∧w.cell? ⟨b,o+4,none⟩=some (.int .i64 r.m.p)∧w.cell? ⟨b,o+5,none⟩=some (.int .i64 r.m.q)∧w.cell? ⟨b,o+6,none⟩=some (.int .i64 r.m.n)∧w.cell? ⟨b,o+7,none⟩=some (.int .i64 r.m.t)∧w.cell? ⟨b,o+8,none⟩=some (.int .i64 r.m.i)∧w.cell? ⟨b,o+9,none⟩=some (.int .i64 r.m.y)∧w.cell? ⟨b,o+10,none⟩=some (.int .i64 r.m.z)∧w.cell? ⟨b,o+11,none⟩=some (.int .i64 r.m.v)∧w.cell? ⟨b,o+12,none⟩=some (.int .i64 r.wh)∧w.cell? ⟨b,o+13,none⟩=some (.bool r.sw)∧w.cell? ⟨b,o+14,none⟩=some (.int .i64 r.sx)∧w.cell? ⟨b,o+15,none⟩=some (.int .i64 r.ex)
def WfR(r:Rw):Prop:=WfM r.m∧inI r.wh∧inI r.sx∧inI r.ex
def Frs(w:World)(B:Nat)(A:Option Addr)(n:Nat):Prop:= ∀i,i<n→ ∃b o r,A=some ⟨b,o,none⟩∧b<B∧WfR r∧V16 w b (o+i*16) r
theorem open_raws{H:Type}{enc:TypeId×Value→H}{w:World}{v:Value}{fuel:Nat}{x:DataW H×List MemPlace}{base:Nat}{held:Bool}
  (hf:DataW.trod enc Tryz.prog w base (fun _=>true) held fuel 51 [v]=some x):
  ∃A n c,v= .slice A n c∧n≤c∧c≤maxLen∧Frs w w.heap.size A n:=by
 have cR:Tryz.prog.cellsOf 62=16:=by kernel_rfl
 have cM:Tryz.prog.cellsOf 57=12:=by kernel_rfl
 have cO:Tryz.prog.cellsOf 55=7:=by kernel_rfl
 have K:Tryz.prog.cellsOf 3=1:=by kernel_rfl
 have L:Tryz.prog.cellsOf 2=1:=by kernel_rfl
 have cb:Tryz.prog.cellsOf 4=1:=by kernel_rfl
 rcases Go.Deep.open_slice Tryz.underlying51 hf with⟨f,_⟩|⟨a,M,O,m,n,D,Pl,f,hb,hl,hm,P,_,hx⟩
 ·injection f with f
  exact⟨none,0,0,f,by simp,by unfold maxLen;omega,fun i hi=>by omega⟩
 ·injection f with f
  subst f;have Q:m=O:=by rw[P];simp
  subst Q;refine⟨some a,M,m,rfl,hl,hm,fun i hi=>?_⟩;obtain⟨ab,ao,T⟩:=a
  have hs:T=none:=by
   obtain⟨g,G,_⟩:=hx 0 (by omega);rw[cR]at G;obtain⟨_,e,b⟩:=World.cells?_some G;have U:=b 0 (by omega);rw[Go.Deep.add_add]at U
   match g,e with
   |[v0,v1,v2,v3,v4,v5,v6,v7,v8,v9,v10,v11,v12,v13,v14,v15],_=>exact spot_none (by simpa using U)
  subst hs;obtain⟨g,G,h2⟩:=hx i (by omega);rw[cR]at G;obtain⟨_,e,b⟩:=World.cells?_some G;obtain⟨ys,k0,ae,af,_,V,I⟩:=DataW.trod_struct Tryz.underlying62 h2
  match ys,V,g,e with
  |[r0,r1,r2,r3,r4],_,[U,e1,e2,e3,e4,e5,e6,e7,e8,e9,e10,e11,e12,e13,e14,e15],_=>
   have p0:=I 0 _ rfl;have p1:=I 1 _ rfl;have p2:=I 2 _ rfl;have p3:=I 3 _ rfl;have p4:=I 4 _ rfl;simp[cM,K,L,cb]at p0 p1 p2 p3 p4;obtain⟨wh,rfl,W⟩:=one_int Tryz.underlying3 p1;obtain⟨sw,rfl⟩:=one_bool Tryz.underlying4 p2;obtain⟨sx,rfl,X⟩:=one_int Tryz.underlying3 p3;obtain⟨ex,rfl,Y⟩:=one_int Tryz.underlying2 p4;obtain⟨xs,k,hk,ag,_,Z,F⟩:=DataW.trod_struct Tryz.underlying57 p0
   match xs,Z with
   |[y0,y1,y2,y3,y4,y5],_=>
    have g0:=F 0 _ rfl;have g1:=F 1 _ rfl;have g2:=F 2 _ rfl;have g3:=F 3 _ rfl;have g4:=F 4 _ rfl;have g5:=F 5 _ rfl;simp[K,cO,L]at g0 g1 g2 g3 g4 g5;obtain⟨aa,n1,_,_,_,h,d⟩:=DataW.trod_struct Tryz.underlying55 g1
    match aa,h with
    |[u0,u1,u2,u3,u4,u5,u6],_=>
     have q0:=d 0 _ rfl;have q1:=d 1 _ rfl;have q2:=d 2 _ rfl;have q3:=d 3 _ rfl;have q4:=d 4 _ rfl;have q5:=d 5 _ rfl;have q6:=d 6 _ rfl;simp[K,L,cb]at q0 q1 q2 q3 q4 q5 q6;obtain⟨kk,rfl,w0⟩:=one_int Tryz.underlying3 g0;obtain⟨a,rfl,w1⟩:=one_int Tryz.underlying3 q0;obtain⟨s,rfl,w2⟩:=one_int Tryz.underlying3 q1;obtain⟨xx,rfl⟩:=one_bool Tryz.underlying4 q2;obtain⟨p,rfl,w4⟩:=one_int Tryz.underlying2 q3;obtain⟨q,rfl,w5⟩:=one_int Tryz.underlying2 q4;obtain⟨nn,rfl,w6⟩:=one_int Tryz.underlying2 q5;obtain⟨t,rfl,w7⟩:=one_int Tryz.underlying2 q6;obtain⟨ii,rfl,w8⟩:=one_int Tryz.underlying3 g2;obtain⟨y,rfl,w9⟩:=one_int Tryz.underlying2 g3;obtain⟨z,rfl,ac⟩:=one_int Tryz.underlying3 g4;obtain⟨o,rfl,ad⟩:=one_int Tryz.underlying2 g5;have J:=b 0 (by omega);have f1:=b 1 (by omega);have f2:=b 2 (by omega);have f3:=b 3 (by omega);have f4:=b 4 (by omega);have f5:=b 5 (by omega);have f6:=b 6 (by omega);have f7:=b 7 (by omega);have f8:=b 8 (by omega);have f9:=b 9 (by omega);have j:=b 10 (by omega);have l:=b 11 (by omega);have r:=b 12 (by omega);have B:=b 13 (by omega);have C:=b 14 (by omega);have E:=b 15 (by omega);rw[Go.Deep.add_add]at J f1 f2 f3 f4 f5 f6 f7 f8 f9 j l r B C E;rw[add_lit']at J f1 f2 f3 f4 f5 f6 f7 f8 f9 j l r B C E;refine⟨ab,ao,⟨⟨kk,a,s,xx,p,q,nn,t,ii,y,z,o⟩,wh,sw,sx,ex⟩,rfl,blk_lt (by simpa using J),⟨⟨w0,w1,w2,w4,w5,w6,w7,w8,w9,ac,ad⟩,W,X,Y⟩,?_⟩;exact⟨by simpa using J,by simpa[Nat.add_assoc] using f1,by simpa[Nat.add_assoc] using f2,by simpa[Nat.add_assoc] using f3,by simpa[Nat.add_assoc] using f4,by simpa[Nat.add_assoc] using f5,by simpa[Nat.add_assoc] using f6,by simpa[Nat.add_assoc] using f7,by simpa[Nat.add_assoc] using f8,by simpa[Nat.add_assoc] using f9,by simpa[Nat.add_assoc] using j,by simpa[Nat.add_assoc] using l,by simpa[Nat.add_assoc] using r,by simpa[Nat.add_assoc] using B,by simpa[Nat.add_assoc] using C,by simpa[Nat.add_assoc] using E⟩
end Lro
namespace Ocs
open Opn Cfg Opc Go.Joins Go.Deep
variable {p:List MemPlace} {b0:Nat} {t:TypeId} {v:Value}
section
variable {H:Type} {enc:TypeId×Value→H} {P:Program} {w:World} {base:Nat} {spare:Nat→Bool} {held:Bool}
theorem open_agg7d{r:Reach}{f0 f1 f2 f3 f4 f5 f6:Field}{d:DataW H}(hs:P.underlying t=some (.struct #[f0,f1,f2,f3,f4,f5,f6]))(hone:oneCellFields P #[f0,f1,f2,f3,f4,f5,f6]=true)(hC:P.cellsOf t=7)
  (hv:Value.okWide P w r b0 t v)(h:DataW.Trod enc P w base spare held t v d p):
  ∃(v0 v1 v2 v3 v4 v5 v6:Value) (y0 y1 y2 y3 y4 y5 y6:DataW H×List MemPlace) (n:Nat),v= .agg #[v0,v1,v2,v3,v4,v5,v6]∧d= .agg [y0.1,y1.1,y2.1,y3.1,y4.1,y5.1,y6.1]∧
   DataW.trod enc P w base spare held n f0.type [v0]=some y0∧DataW.trod enc P w base spare held n f1.type [v1]=some y1∧DataW.trod enc P w base spare held n f2.type [v2]=some y2∧DataW.trod enc P w base spare held n f3.type [v3]=some y3∧DataW.trod enc P w base spare held n f4.type [v4]=some y4∧DataW.trod enc P w base spare held n f5.type [v5]=some y5∧DataW.trod enc P w base spare held n f6.type [v6]=some y6:=by
 obtain⟨f,rfl,c⟩:=okWide_struct hs hv;obtain⟨l⟩:=f
 match l,c.trans hC with
 |[c0,c1,c2,c3,c4,c5,c6],_=>
  obtain⟨e,g⟩:=h;obtain⟨i,n,_,j,_,b,a⟩:=DataW.trod_struct hs g;obtain⟨k,m⟩:=hone_of hone 0 f0 rfl;obtain⟨o,q⟩:=hone_of hone 1 f1 rfl;obtain⟨s,x⟩:=hone_of hone 2 f2 rfl;obtain⟨y,z⟩:=hone_of hone 3 f3 rfl;obtain⟨A,C⟩:=hone_of hone 4 f4 rfl;obtain⟨E,F⟩:=hone_of hone 5 f5 rfl;obtain⟨G,I⟩:=hone_of hone 6 f6 rfl
  match i,b with
  |[y0,y1,y2,y3,y4,y5,y6],_=>
   injection j with hx1 hx2
   exact⟨c0,c1,c2,c3,c4,c5,c6,y0,y1,y2,y3,y4,y5,y6,n,rfl,hx1,by simpa[Value.cells,k,m] using a 0 f0 rfl,by simpa[Value.cells,o,q] using a 1 f1 rfl,by simpa[Value.cells,s,x] using a 2 f2 rfl,by simpa[Value.cells,y,z] using a 3 f3 rfl,by simpa[Value.cells,A,C] using a 4 f4 rfl,by simpa[Value.cells,E,F] using a 5 f5 rfl,by simpa[Value.cells,G,I] using a 6 f6 rfl⟩
theorem slice_weight{e:TypeId}{fuel:Nat}{A:Option Addr}{n c:Nat}{x:DataW H×List MemPlace}(ht:P.underlying t=some (.slice e))(h:DataW.trod enc P w base (fun _=>true) held fuel t [.slice A n c]=some x)(hz: ∀k∈x.1.weights P t,k≤reachBytes):n*P.bytesOf e≤reachBytes:=by
 rcases Go.Deep.open_slice ht h with⟨b,_⟩|⟨a,len,d,m,k,D,l,b,o,q,r,f,g,_⟩
 ·injection b with b
  simp only[Value.slice.injEq]at b;rw[b.2.1];simp
 ·injection b with b
  simp only[Value.slice.injEq]at b;rw[g]at hz;have i:=hz ((((List.range len).map D).length+((List.range (m-len)).map fun j=>D (len+j)).length)*P.bytesOf e) (by simp[DataW.weights,ht]);rw[b.2.1];refine Nat.le_trans (Nat.mul_le_mul_right _ ?_) i;simp
end
theorem open_conf_s{H:Type}{enc:TypeId×Value→H}{w:World}{r:Reach}{base:Nat}{held:Bool}{d:DataW H}(hv:Value.okWide Tryz.prog w r b0 26 v)(h:DataW.Trod enc Tryz.prog w base (fun _=>true) held 26 v d p)(hz: ∀k∈d.weights Tryz.prog 26,k≤reachBytes):
  ∃(sh wi ra ta:Int) (A B C:Option Addr) (c d f:Nat) (nd:List (Int×Int)) (ac:List Int) (sy:List (Int×Int×Int×Nat)),v= .agg #[.int .i64 sh,.int .i64 wi,.int .i64 ra,.int .i64 ta,.slice A nd.length c,.slice B ac.length d,.slice C sy.length f]∧
   inI sh∧inI wi∧inI ra∧inI ta∧(nd.length:Int)≤4611686018427387904∧(ac.length:Int)≤4611686018427387904∧(sy.length:Int)≤4398046511104∧Nds w w.heap.size A nd∧WfN nd∧Ris w w.heap.size B ac∧WfI ac∧Btb w w.heap.size C sy∧WfS sy:=by
 obtain⟨v0,v1,v2,v3,v4,v5,v6,F,G,I,J,K,L,O,n,rfl,rfl,Q,R,S,T,l,m,o⟩:=open_agg7d Tryz.underlying26 (by kernel_rfl) (by kernel_rfl) hv h
 have a: ∀(j:Nat) (b:TypeId) (y:DataW H),[3,3,3,3,22,23,24][j]? =some b→[F.1,G.1,I.1,J.1,K.1,L.1,O.1][j]? =some y→ ∀k∈y.weights Tryz.prog b,k≤reachBytes:=by
  intro j b y q s k U;refine hz k ?_;simp only[DataW.weights,Tryz.underlying26];exact DataW.weights_mem_each (j:=j) q s k U
 obtain⟨sh,rfl,V⟩:=one_int Tryz.underlying3 Q;obtain⟨wi,rfl,W⟩:=one_int Tryz.underlying3 R;obtain⟨ra,rfl,X⟩:=one_int Tryz.underlying3 S;obtain⟨ta,rfl,Y⟩:=one_int Tryz.underlying3 T;obtain⟨A,c,nd,rfl,q,s,Z,e⟩:=open_nodesc Tryz.underlying22 Tryz.underlying133 (by kernel_rfl) rfl rfl (by kernel_rfl) (by kernel_rfl) Tryz.underlying3 Tryz.underlying2 l;obtain⟨B,d,ac,rfl,h3,h4,ha,g⟩:=open_i64c Tryz.underlying23 Tryz.underlying3 (by kernel_rfl) m;obtain⟨C,f,sy,rfl,h5,h6,hs,i⟩:=open_fours Tryz.underlying24 Tryz.underlying89 (by kernel_rfl) rfl rfl rfl rfl (by kernel_rfl) (by kernel_rfl) (by kernel_rfl) (by kernel_rfl) Tryz.underlying2 Tryz.underlying2 Tryz.underlying2 Tryz.underlying69 o;have x:=slice_weight Tryz.underlying22 l (a 4 _ _ rfl rfl);have z:=slice_weight Tryz.underlying23 m (a 5 _ _ rfl rfl);have E:=slice_weight Tryz.underlying24 o (a 6 _ _ rfl rfl);rw[show Tryz.prog.bytesOf 133=16 from by kernel_rfl]at x;rw[show Tryz.prog.bytesOf 3=8 from by kernel_rfl]at z;rw[show Tryz.prog.bytesOf 89=32 from by kernel_rfl]at E;unfold reachBytes at x z E;exact⟨sh,wi,ra,ta,A,B,C,c,d,f,nd,ac,sy,rfl,V,W,X,Y,by omega,by omega,by omega,Z,e,ha,g,hs,i⟩
end Ocs
end Go.Proofs.YtcccdikhfgpamaaGreat
