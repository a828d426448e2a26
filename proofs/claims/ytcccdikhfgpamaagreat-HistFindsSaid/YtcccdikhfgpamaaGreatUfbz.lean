/- Texts side by side. -/
import Derived.Test.YtcccdikhfgpamaaGreatUfcb
set_option linter.unusedVariables false
set_option linter.unusedSimpArgs false
set_option maxRecDepth 100000
set_option maxHeartbeats 16000000
namespace Go.Proofs.YtcccdikhfgpamaaGreat
open Mem Wpl Hpa Hpl
namespace Hdi
open Kap Go.ChangeShapes Go.WideShapes Go.ChangeAt Go.RowKit Tre Ref3 Law3 Fix3 Cfg Crd CrdB CrdC Cpl Res Bkp Bks Bkf Bkg Bcl Dlk Stk Apt Bko Bku Bka Bkc Bkq Bkj Bkw Mdp Mdz Mds Mdn Mdo Mdk Mdr Mdj Mdl Mdy Mdd Mdq
open Mdg hiding Mm_new
def Ip(p:Pm):Prop:= ∀b∈p.bs,∀e∈b.op,0≤e.id
variable {b:Bk} {m:Nat} {p:Pm}
theorem ip_set(h:Ip p)(i:Nat)(b:Bk)(hb: ∀e∈b.op,0≤e.id):Ip {p with bs:=p.bs.set i b}:=fun c a=>by
 rcases List.mem_or_eq_of_mem_set a with h1|h1
 ·exact h c h1
 ·rw[h1];exact hb
theorem ip_gB(h:Ip p)(i:Nat): ∀e∈(gB p.bs i).op,0≤e.id:=by
 by_cases hi:i<p.bs.length
 ·exact h _ (gB_mem hi)
 ·unfold gB;rw[List.getD,List.getElem?_eq_none (by omega)];intro e a;cases a
theorem id_gB(v:Vp m p)(i:Nat):0≤(gB p.bs i).sh+p.sh*(gB p.bs i).ca:=by
 have c:=v.sh;by_cases hi:i<p.bs.length
 ·have a:=(v.bk _ (gB_mem hi)).1.1;have d:=Int.mul_nonneg (show(0:Int)≤p.sh by omega) a.ca.1;have f:=a.sh;omega
 ·have e:gB p.bs i=bk0:=by unfold gB;rw[List.getD,List.getElem?_eq_none (by omega)];rfl
  rw[e];show(0:Int)≤0+p.sh*0;simp
theorem id_fill(h: ∀e∈b.op,0≤e.id)(k y:Int): ∀e∈(fillF b k y).1.op,0≤e.id:=by
 unfold fillF;split
 ·exact h
 ·split
  ·rename_i hp
   split
   ·exact h
   ·split
    ·exact fun e a=>h e (delE_mem a)
    ·intro e a;rcases List.mem_or_eq_of_mem_set a with h1|h1
     ·exact h e h1
     ·rw[h1];exact(h _ (gE_mem hp):0≤(gE b.op (posE b.op k)).id)
  ·exact h
theorem id_ack(h: ∀e∈b.op,0≤e.id)(k:Int): ∀e∈(ackF b k).1.op,0≤e.id:=by
 unfold ackF;split
 ·split
  ·exact h
  ·exact fun e a=>h e (delE_mem a)
 ·exact h
theorem id_cancel(h: ∀e∈b.op,0≤e.id)(k:Int): ∀e∈(cancelF b k).1.op,0≤e.id:=by
 unfold cancelF;split
 ·rename_i hp
  split
  ·exact h
  ·intro e a;rcases List.mem_or_eq_of_mem_set a with h1|h1
   ·exact h e h1
   ·rw[h1];exact(h _ (gE_mem hp):0≤(gE b.op (posE b.op k)).id)
 ·exact h
theorem id_swE(ep:Int)(e:En):(swE ep e).id=e.id:=by
 unfold swE;split<;>rfl
theorem id_sweep(h: ∀e∈b.op,0≤e.id)(ep:Int): ∀e∈(sweepF b ep).op,0≤e.id:=by
 intro e a;obtain⟨c,he0,rfl⟩:=List.mem_map.1 (show e∈b.op.map (swE ep) from a);rw[id_swE];exact h c he0
theorem ip_do(h:Ip p)(v:Vp m p)(o:Opn):Ip (doF p o).1∧ ∀u∈(doF p o).2.2.2,0≤u.2:=by
 have a: ∀u∈([]:List (Int×Int)),0≤u.2:=fun u c=>by cases c
 unfold doF;split
 ·unfold swpF;split
  ·refine⟨ip_set h _ _ (id_sweep (ip_gB h _) _),fun u c=>?_⟩;obtain⟨i,l,rfl⟩:=List.mem_map.1 (show u∈(swI o.ex (gB p.bs o.sx.toNat).op).map (fun i=>((1:Int),i)) from c);obtain⟨e,f,rfl⟩:=List.mem_map.1 l;exact ip_gB h _ e (List.mem_filter.1 f).1
  ·exact⟨h,a⟩
 ·split
  ·exact⟨h,a⟩
  ·rename_i hr
   have g:rightM o.m=true:=by simpa using hr
   obtain⟨_,_,_,d⟩:=rightM_of g;have j:0≤o.m.i:=d.2.2.2.1.1;split
   ·unfold Mdo.ordF;split
    ·exact⟨h,a⟩
    ·split
     ·exact⟨h,a⟩
     ·split
      ·exact⟨h,a⟩
      ·split
       ·exact⟨h,a⟩
       ·refine⟨ip_set h _ _ (fun e f=>?_),fun u c=>?_⟩
        ·have k:e∈(gB p.bs (shaP p _)).op++[_]:=f;rcases List.mem_append.1 k with h3|h3
         ·exact ip_gB h _ e h3
         ·simp only[List.mem_cons,List.not_mem_nil,or_false]at h3;rw[h3];exact id_gB v _
        ·simp only[List.mem_cons,List.not_mem_nil,or_false]at c;rw[c];exact id_gB v _
   ·split
    ·unfold canF;split
     ·exact⟨h,a⟩
     ·refine⟨ip_set h _ _ (id_cancel (ip_gB h _) _),fun u c=>?_⟩;simp only[List.mem_cons,List.not_mem_nil,or_false]at c;rw[c];exact j
    ·split
     ·unfold filF;split
      ·exact⟨h,a⟩
      ·exact⟨ip_set h _ _ (id_fill (ip_gB h _) _ _),a⟩
     ·split
      ·unfold akF;split
       ·exact⟨h,a⟩
       ·exact⟨ip_set h _ _ (id_ack (ip_gB h _) _),a⟩
      ·split
       ·exact⟨h,a⟩
       ·split
        ·refine⟨?_,a⟩;show Ip (rearmF p).1;unfold rearmF;split<;>exact h
        ·unfold lmtF;split<;>exact⟨h,a⟩
theorem ip_begin(sh wi ra ta:Int)(nd:List (Int×Int))(ac:List Int)(sy:List (Int×Int×Int×Nat)):Ip (bgnP sh wi ra ta nd ac sy):=by
 intro b a;obtain⟨k,d,rfl⟩:=List.mem_map.1 (show b∈(List.range sh.toNat).map (fun k:Nat=>beginF ac.length (k:Int)) from a);intro e c;cases c
theorem let_ids(E:List He): ∀(l:List Nat) (m:Nat) (p:Pm),Ip p→Vp m p→(∀i,inI (gH E i).m.t∧inI (gH E i).m.p∧inI (gH E i).m.q)→ ∀u∈letL E l p,0≤u.2
 |[],_,_,_,_,_=>fun u hu=>by cases hu
 |i :: t,m,p,h,v,w=>fun u hu=>by
  rcases List.mem_append.1 (show u∈(doF p (opH (gH E i))).2.2.2++letL E t (doF p (opH (gH E i))).1 from hu) with h1|h1
  ·exact(ip_do h v _).2 u h1
  ·exact let_ids E t (m+1) _ (ip_do h v _).1 (Vp_do v _ (w i).1 (w i).2.1 (w i).2.2) w u h1
end Hdi
namespace Hqp
open Mds (Pm)
def quF(n:Int)(E:List He)(P:Pm)(out:List (Int×Int))(sN:Nat):Bool:=rightF n E&&((out.all fun o=>decide (0≤o.2))&&queL (letL E (ordF E) P) out (wholeF E) sN sN 0)
theorem gH_get{E:List He}{i:Nat}(h:i<E.length):gH E i=E[i]:=by simp[gH,h]
def preL:List (Int×Int)→List (Int×Int)→Bool
 |[],_=>true
 |_ :: _,[]=>false
 |x :: t,y :: u=>(x.1==y.1&&x.2==y.2)&&preL t u
theorem pre_iff: ∀{a b:List (Int×Int)},a.length≤b.length→(a=b.take a.length↔preL a b=true)
 |[],b,_=>by simp[preL]
 |x :: t,[],h=>absurd h (by simp)
 |x :: t,y :: u,h=>by
  have ih:=pre_iff (a:=t) (b:=u) (by simpa using h)
  show(x :: t=y :: u.take t.length)↔_
  simp only[preL,Bool.and_eq_true,beq_iff_eq,←ih,List.cons.injEq,Prod.ext_iff]
variable {want out:List (Int×Int)} {wh:Bool} {n s:Int}
theorem sh_gt(h:(ofF want n s).length<(ofF out n s).length):shF want out wh n s=false:=by
 unfold shF;rw[decide_eq_false (by omega)];rfl
theorem sh_wh(h:(ofF out n s).length<(ofF want n s).length):shF want out true n s=false:=by
 unfold shF;rw[decide_eq_true (p:=(ofF out n s).length<(ofF want n s).length) h];simp
theorem sh_ok(h:(ofF out n s).length≤(ofF want n s).length)(h2:wh=true→ ¬(ofF out n s).length<(ofF want n s).length):shF want out wh n s=preL (ofF out n s) (ofF want n s):=by
 have e:(ofF out n s==(ofF want n s).take (ofF out n s).length)=preL (ofF out n s) (ofF want n s):=by rw[Bool.eq_iff_iff,beq_iff_eq];exact pre_iff h
 unfold shF;rw[decide_eq_true h,e];cases wh with
 |false=>simp
 |true=>rw[decide_eq_false (h2 rfl)];simp
theorem pre_step{a b:List (Int×Int)}{j:Nat}(ha:j<a.length)(hb:j<b.length):preL (a.drop j) (b.drop j)=((nP a j==nP b j&&nC a j==nC b j)&&preL (a.drop (j+1)) (b.drop (j+1))):=by
 rw[List.drop_eq_getElem_cons ha,List.drop_eq_getElem_cons hb];simp[preL,nP,nC,ha,hb]
theorem ids_at{l:List (Int×Int)}(h: ∀u∈l,0≤u.2): ∀i,i<l.length→0≤nC l i:=fun i a=>by
 have:=h _ (List.getElem_mem a)
 simpa[nC,a] using this
theorem all_step{l:List (Int×Int)}{j:Nat}(h:j<l.length):((l.drop j).all fun o=>decide (0≤o.2))=(decide (0≤nC l j)&&((l.drop (j+1)).all fun o=>decide (0≤o.2))):=by
 have e:l.getD j (0,0)=l[j]:=by simp[h]
 rw[List.drop_eq_getElem_cons h,List.all_cons,nC,e]
end Hqp
namespace Hte
open Tre Ref3 Law3 Fix3 Cfg Crd CrdB CrdC St7 Rul6 Fcf Fown Rul7 Tl5 Gdc Hqp Hck
open Mds (Pm)
open Mdg (bgnP)
open Mdq (Vp Vp_begin)
def ndE:List (Int×Int):=[(-1,1000)]
def acE:List Int:=[0]
def syE:List (Int×Int×Int×Nat):=[(10,100,1000,4602678819172646912)]
theorem eN:fixF []=ndE:=by decide+kernel
theorem eA:fixA (fixF []).length []=acE:=by decide+kernel
theorem eS:fixS []=syE:=by decide+kernel
def P0:Pm:=bgnP 1 0 1 1 ndE acE syE
theorem cfE:cfgF 1 0 1 1 ndE acE syE=0:=by
 have h:=(good_fix 0 0 0 0 [] [] [] (fun i a=>by simp at a)).cfg;rw[eN,show fixA ndE.length []=acE from by rw[←eN];exact eA,eS,show 1+modF 0 3=1 from by decide+kernel,show modF 0 4=0 from by decide+kernel,show 1+modF 0 6=1 from by decide+kernel,show 1+modF 0 8=1 from by decide+kernel]at h;exact h
theorem wnE:WfN ndE:=by rw[←eN];exact wfn_fix []
theorem waE:WfI acE:=by
 intro i a;have:i=0:=by simp[acE]at a;omega
 subst this;exact⟨by decide,by decide⟩
theorem wsE:WfS syE:=by rw[←eS];exact wfs_fix (fun i a=>by simp at a)
theorem vE:Vp 0 P0:=Vp_begin cfE (by rw[←eN];exact okt_fixF []) (by decide) (by decide) wsE waE
def kE:He:=⟨0,0,2,2,⟨4,0,0,false,0,0,0,0,0,0,0,0⟩,false,0,0,0,0⟩
def oE:He:=⟨1,0,3,4,⟨0,0,0,false,10,2,0,0,0,0,0,0⟩,false,0,0,0,0⟩
def pE:He:=⟨1,0,1,4,⟨0,0,0,false,10,2,0,0,0,0,0,0⟩,false,0,0,0,0⟩
theorem t1:chkF 2 [kE,oE] P0=1:=by decide+kernel
theorem t2:chkF 2 [kE,pE] P0= -1:=by decide+kernel
theorem t3:chkF 1 [kE,pE] P0= -2:=by decide+kernel
theorem t4:quF 2 [kE,pE] P0 [(0,0)] 1=true:=by decide+kernel
theorem t5:quF 2 [kE,pE] P0 [] 1=false:=by decide+kernel
end Hte
namespace Hsl
open Kap Go.ChangeShapes Go.WideShapes Go.ChangeAt Go.RowKit Go.Lib Tre Ref3 Law3 Hws Hun Hqp
def MadeIx(b:Bool)(w:World)(e:Ending)(w':World):Prop:= ∃r:Int,e= .returned (.int .i64 r)∧Below w.heap.size w w'∧decide (0≤r)= !b
theorem ixO_any(l:List (Int×Int))(A:Option Addr)(c:Nat)(w:World)(hl:Hid (Nds w w.heap.size A l))(hm:l.length≤100000):Calls Tryz.prog 63 #[.slice A l.length c,.func (.func 33) #[] #[]] w (MadeIx (l.all fun o=>decide (0≤o.2)) w):=by
 obtain⟨a,d⟩: ∃r,r=l.all fun o=>decide (0≤o.2):=⟨_,rfl⟩
 have n:Hid (a=(l.drop 0).all fun o=>decide (0≤o.2)):=κ d;rw[←d];clear d
 go_enter Tryz.func63,Tryz.ntmps63
 go_wp2_with fail
 go_loopg [8] l.length (fun g C E=> ∃k,k+g=l.length∧C= ι (k:Nat)∧Hid (a=(l.drop k).all fun o=>decide (0≤o.2))∧Hid (Below w.heap.size w E))
 case atStart=>exact⟨0,by omega,rfl,n,κ ψ⟩
 case round=>
  clear n;obtain⟨k,H,rfl,i,U⟩:=hrel
  rename World=>F
  by_cases hlt:k<l.length
  ·obtain⟨g,rfl⟩: ∃g,gk=g+1:=⟨gk-1,by omega⟩;have h:decide ((k:Int)<(l.length:Int))=true:=by simp;omega
   have s:(k:Int)<(l.length:Int):=by omega
   obtain⟨b,o,rfl,_,t⟩:=Nds.at (Rd.below' hl.o U.o U.o.size) (by omega);obtain⟨v,x⟩:=t k hlt;have j:=κ (all_step hlt);clear t;generalize nP l k=p at v;generalize nC l k=q at x j
   go_wp2_with fail
   refine(neg_any p q F).mono ?_;rintro e I ⟨rfl,y⟩;have z:=κ (bst U.o y);clear v x y U;by_cases hq:q<0
   ·have f:decide (q<0)=true:=by simp[hq]
    have m:Hid (a=false):=κ (by rw[i.o,j.o,decide_eq_false (by omega)];rfl);rw[f]
    go_wp2_with fail
    go_ret;exact⟨k,rfl,z.o,by rw[m.o];simp⟩
   ·have f:decide (q<0)=false:=by simp;omega
    have m:Hid (a=(l.drop (k+1)).all fun o=>decide (0≤o.2)):=κ (by rw[i.o,j.o,decide_eq_true (by omega)];rfl);rw[f]
    go_wp2_with fail
    go_roundg g
    case measure=>omega
    case rel=>exact⟨k+1,by omega,by go_num,m,z⟩
  ·have h:decide ((k:Int)<(l.length:Int))=false:=by simp;omega
   have G:Hid (a=true):=κ (by rw[i.o,List.drop_eq_nil_of_le (by omega)];rfl)
   go_wp2_with fail
   go_ret;exact⟨-1,rfl,U.o,by rw[G.o];rfl⟩
theorem cnO_any(l:List (Int×Int))(A:Option Addr)(c:Nat)(w:World)(hl:Hid (Nds w w.heap.size A l))(hm:l.length≤100000):Calls Tryz.prog 32 #[.slice A l.length c,.func (.func 33) #[] #[]] w (MadeB (!(l.all fun o=>decide (0≤o.2))) w):=by
 have X:=ixO_any l A c w hl hm
 go_enter Tryz.func32,Tryz.ntmps32
 go_wp2_with fail
 refine X.mono ?_;rintro e f ⟨r,rfl,b,a⟩;have d:=κ a;clear a X
 go_wp2_with fail
 go_ret;exact⟨by rw[←d.o];rfl,b⟩
theorem ent_step{E:List He}{k:Nat}(h:k<E.length):wholeF (E.drop k)=(!((gH E k).k != 0&&(gH E k).e==0)&&wholeF (E.drop (k+1))):=by
 unfold wholeF;rw[List.drop_eq_getElem_cons h,List.all_cons,gH_get h]
theorem ixE_any(E:List He)(A:Option Addr)(c:Nat)(w:World)(hl:Hid (Rd w w.heap.size A (hrow E)))(hm:E.length≤1000):Calls Tryz.prog 64 #[.slice A E.length c,.func (.func 35) #[] #[]] w (MadeIx (wholeF E) w):=by
 obtain⟨a,d⟩: ∃r,r=wholeF E:=⟨_,rfl⟩;have n:Hid (a=wholeF (E.drop 0)):=κ d;rw[←d];clear d
 go_enter Tryz.func64,Tryz.ntmps64
 go_wp2_with fail
 go_loopg [8] E.length (fun g v x=> ∃k,k+g=E.length∧v= ι (k:Nat)∧Hid (a=wholeF (E.drop k))∧Hid (Below w.heap.size w x))
 case atStart=>exact⟨0,by omega,rfl,n,κ ψ⟩
 case round=>
  clear n;obtain⟨k,C,rfl,i,U⟩:=hrel
  rename World=>y
  by_cases hlt:k<E.length
  ·obtain⟨g,rfl⟩: ∃g,gk=g+1:=⟨gk-1,by omega⟩;have h:decide ((k:Int)<(E.length:Int))=true:=by simp;omega
   have p:(k:Int)<(E.length:Int):=by omega
   obtain⟨b,o,rfl,_,q⟩:=hes_at (Rd.below' hl.o U.o U.o.size) (by omega);have j:=κ (ent_step hlt);have l:=ld21 (q k hlt);clear q;generalize gH E k=X at l j
   go_wp2_with (refine wpList_ld _ _ rfl rfl rfl l ?_)
   refine(under_any X y).mono ?_;rintro e F ⟨rfl,s⟩;have t:=κ (bst U.o s);clear l s U;by_cases hq:(X.k != 0&&X.e==0)=true
   ·have m:Hid (a=false):=κ (by rw[i.o,j.o,hq];rfl);rw[hq]
    go_wp2_with fail
    go_ret;exact⟨k,rfl,t.o,by rw[m.o];simp⟩
   ·have f:=Bool.eq_false_iff.2 hq;have m:Hid (a=wholeF (E.drop (k+1))):=κ (by rw[i.o,j.o,f];rfl);rw[f];clear hq f
    go_wp2_with fail
    go_roundg g
    case measure=>omega
    case rel=>exact⟨k+1,by omega,by go_num,m,t⟩
  ·have h:decide ((k:Int)<(E.length:Int))=false:=by simp;omega
   have z:Hid (a=true):=κ (by rw[i.o,List.drop_eq_nil_of_le (by omega)];rfl)
   go_wp2_with fail
   go_ret;exact⟨-1,rfl,U.o,by rw[z.o];rfl⟩
theorem cnE_any(E:List He)(A:Option Addr)(c:Nat)(w:World)(hl:Hid (Rd w w.heap.size A (hrow E)))(hm:E.length≤1000):Calls Tryz.prog 34 #[.slice A E.length c,.func (.func 35) #[] #[]] w (MadeB (!(wholeF E)) w):=by
 have X:=ixE_any E A c w hl hm
 go_enter Tryz.func34,Tryz.ntmps34
 go_wp2_with fail
 refine X.mono ?_;rintro e f ⟨r,rfl,b,a⟩;have d:=κ a;clear a X
 go_wp2_with fail
 go_ret;exact⟨by rw[←d.o];rfl,b⟩
theorem eqO_any(la lb:List (Int×Int))(na:Nat)(A1 A2:Option Addr)(c1 c2:Nat)(w:World)(N1:Hid (Nds w w.heap.size A1 la))(N2:Hid (Nds w w.heap.size A2 lb))(HNA:Hid (na=la.length))(hle:Hid (na≤lb.length))(hm:na≤100000):Calls Tryz.prog 37 #[.slice A1 na c1,.slice A2 na c2] w (MadeB (preL la lb) w):=by
 obtain⟨c,d⟩: ∃r,r=preL la lb:=⟨_,rfl⟩;have x:Hid (c=preL (la.drop 0) (lb.drop 0)):=κ d;rw[←d];clear d;have P:((na:Int) != (na:Int))=false:=by simp
 go_enter Tryz.func37,Tryz.ntmps37
 go_wp2_with fail
 go_loopg [13] na (fun g s z=> ∃j,j+g=na∧s= ι (j:Nat)∧Hid (c=preL (la.drop j) (lb.drop j))∧Hid (Below w.heap.size w z))
 case atStart=>exact⟨0,by omega,rfl,x,κ ψ⟩
 case round=>
  clear x;obtain⟨j,Q,rfl,p,f⟩:=hrel
  rename World=>A
  by_cases hja:j<na
  ·obtain⟨C,rfl⟩: ∃g,gk=g+1:=⟨gk-1,by omega⟩;have t:decide ((j:Int)<(na:Int))=true:=by simp;omega
   have E:(j:Int)<(na:Int):=by omega
   obtain⟨R,S,rfl,_,l⟩:=Nds.at (Rd.below' N1.o f.o f.o.size) (by rw[←HNA.o];omega);obtain⟨T,U,rfl,_,m⟩:=Nds.at (Rd.below' N2.o f.o f.o.size) (by have:=hle.o;omega);obtain⟨F,G⟩:=l j (by rw[←HNA.o];exact hja);obtain⟨H,I⟩:=m j (by have:=hle.o;omega);have h:=κ (pre_step (a:=la) (b:=lb) (j:=j) (by rw[←HNA.o];exact hja) (by have:=hle.o;omega));clear l m;generalize nP la j=i at F h;generalize nC la j=n at G h;generalize nP lb j=k at H h;generalize nC lb j=o at I h;by_cases hp:i=k
   ·by_cases hq:n=o
    ·have y:(i != k)=false:=by simp[hp]
     have q:(i==k)=true:=by simp[hp]
     have J:(n != o)=false:=by simp[hq]
     have v:(n==o)=true:=by simp[hq]
     have e:Hid (c=preL (la.drop (j+1)) (lb.drop (j+1))):=κ (by rw[p.o,h.o,q,v];rfl)
     go_wp2_with fail
     go_quiet (fail)
     rename Nat=>K
     have L:Hid (Below w.heap.size w (A.drewN K)):=κ (Below.drewN' f.o _)
     go_wp2_with fail
     go_roundg C
     case measure=>omega
     case rel=>exact⟨j+1,by omega,by go_num,e,L⟩
    ·have y:(i != k)=false:=by simp[hp]
     have q:(i==k)=true:=by simp[hp]
     have J:(n != o)=true:=by simp[hq]
     have v:(n==o)=false:=by simp[hq]
     have e:Hid (c=false):=κ (by rw[p.o,h.o];simp[v])
     go_wp2_with fail
     go_quiet (fail)
     go_wp2_with fail
     go_ret;exact⟨by rw[e.o];rfl,Below.drewN' f.o _⟩
   ·have y:(i != k)=true:=by simp[hp]
    have q:(i==k)=false:=by simp[hp]
    have e:Hid (c=false):=κ (by rw[p.o,h.o];simp[q])
    go_wp2_with fail
    go_quiet (fail)
    go_wp2_with fail
    go_ret;exact⟨by rw[e.o];rfl,Below.drewN' f.o _⟩
  ·have t:decide ((j:Int)<(na:Int))=false:=by simp;omega
   have O:Hid (c=true):=κ (by rw[p.o,List.drop_eq_nil_of_le (by rw[←HNA.o];omega)];rfl)
   go_wp2_with fail
   go_ret;exact⟨by rw[O.o];rfl,f.o⟩
end Hsl
end Go.Proofs.YtcccdikhfgpamaaGreat
