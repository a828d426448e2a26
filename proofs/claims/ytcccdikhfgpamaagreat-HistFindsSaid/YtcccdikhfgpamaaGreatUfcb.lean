/- Texts side by side. -/
import Derived.Test.YtcccdikhfgpamaaGreatUfbo
set_option linter.unusedVariables false
set_option linter.unusedSimpArgs false
set_option maxRecDepth 100000
set_option maxHeartbeats 16000000
namespace Go.Proofs.YtcccdikhfgpamaaGreat
open Mem
namespace Hpl
open Wpl Hpa
open Mds (Pm)
open Mdd (Opn doF)
def opH(x:He):Opn:=⟨x.m,x.sw,x.sx,x.ex⟩
def chkL(E:List He):List Nat→Pm→Int
 |[],_=> -1
 |i :: t,P=>if (gH E i).e≠0∧ ¬((doF P (opH (gH E i))).2.1=(gH E i).c∧(doF P (opH (gH E i))).2.2.1=(gH E i).d) then (i:Int) else chkL E t (doF P (opH (gH E i))).1
def letL(E:List He):List Nat→Pm→List (Int×Int)
 |[],_=>[]
 |i :: t,P=>(doF P (opH (gH E i))).2.2.2++letL E t (doF P (opH (gH E i))).1
def wholeF(E:List He):Bool:=E.all fun x=> !(x.k != 0&&x.e==0)
def ofF(l:List (Int×Int))(n s:Int):List (Int×Int):=l.filter fun o=>o.2%n==s
def shF(want out:List (Int×Int))(wh:Bool)(n s:Int):Bool:=decide ((ofF out n s).length≤(ofF want n s).length)&&(!(wh&&decide ((ofF out n s).length<(ofF want n s).length))&&(ofF out n s==(ofF want n s).take (ofF out n s).length))
def queL(want out:List (Int×Int))(wh:Bool)(n:Int):Nat→Nat→Bool
 |0,_=>true
 |g+1,s=>shF want out wh n s&&queL want out wh n g (s+1)
end Hpl
namespace Hmc
open Kap Go.ChangeShapes Go.WideShapes Go.ChangeAt Go.RowKit Go.Lib Tre Ref3 Law3 Wpl Hpa Hws Hod
def cmpI(a b:Int):Int:=if a<b then-1 else if b<a then 1 else 0
theorem cmpI_lt(a b:Int):decide (cmpI a b<0)=decide (a<b):=by
 unfold cmpI;by_cases h:a<b
 ·simp[h]
 ·rw[if_neg h];by_cases k:b<a
  ·simp[h,k]
  ·simp[h,k]
theorem rgt_not{n:Int}: ∀(E:List He) (s:List Int),rgt n E s=true→ ∀y∈E,y.k ∉ s
 |[],_,_=>fun y hy=>absurd hy (by simp)
 |x :: t,s,h=>by
  have h1:(okE n x&&(!(s.contains x.k)&&rgt n t (mkS x s)))=true:=h
  rw[Bool.and_eq_true,Bool.and_eq_true]at h1
  obtain⟨_,b,c⟩:=h1
  have d:=rgt_not t _ c
  intro y hy
  rcases List.mem_cons.1 hy with rfl|hy
  ·intro a;simp[a]at b
  ·intro a
   refine d y hy ?_
   unfold mkS
   split
   ·exact a
   ·exact List.mem_cons_of_mem _ a
theorem rgt_pair{n:Int}: ∀(E:List He) (s:List Int),rgt n E s=true→E.Pairwise (fun x y=>x.k≠0→x.k≠y.k)
 |[],_,_=>List.Pairwise.nil
 |x :: t,s,h=>by
  have h1:(okE n x&&(!(s.contains x.k)&&rgt n t (mkS x s)))=true:=h
  rw[Bool.and_eq_true,Bool.and_eq_true]at h1
  refine List.pairwise_cons.2 ⟨fun y a b e=>rgt_not t _ h1.2.2 y a ?_,rgt_pair t _ h1.2.2⟩
  unfold mkS
  rw[if_neg b,←e]
  exact List.mem_cons_self ..
theorem fk_get{E:List He}{i:Nat}(h:i<E.length):fk E i=(E[i]).k:=by simp[fk,gH,h]
theorem right_one{n:Int}{E:List He}(h:rightF n E=true): ∀a,a<E.length→ ∀b,b<E.length→fk E a≠0→fk E a=fk E b→a=b:=by
 unfold rightF at h;simp only[Bool.and_eq_true]at h;have g:=List.pairwise_iff_getElem.1 (rgt_pair _ _ h.2.2.2);intro a f b c d e;rcases Nat.lt_trichotomy a b with hlt|he|hlt
 ·rw[fk_get f]at d e;rw[fk_get c]at e;exact absurd e (g a b f c hlt d)
 ·exact he
 ·rw[e]at d;rw[fk_get f,fk_get c]at e;rw[fk_get c]at d;exact absurd e.symm (g b a c f hlt d)
def plc(E:List He)(n:Nat):List Nat:=(List.range n).filter fun i=>fk E i != 0
theorem plc_succ(E:List He)(n:Nat):plc E (n+1)=if fk E n=0 then plc E n else plc E n++[n]:=by
 unfold plc;rw[List.range_succ,List.filter_append];by_cases h:fk E n=0<;>simp[h]
theorem plc_lt{E:List He}{n a:Nat}(h:a∈plc E n):a<n∧fk E a≠0:=by
 obtain⟨b,c⟩:=List.mem_filter.1 h;exact⟨List.mem_range.1 b,by simpa using c⟩
theorem plc_len(E:List He)(n:Nat):(plc E n).length≤n:=Nat.le_trans (List.length_filter_le _ _) (by simp)
theorem sorted_ord{n:Int}{E:List He}(h:rightF n E=true){l:List Nat}(hp:l.Perm (plc E E.length))(hs:l.Pairwise (fun a b=>fk E a≤fk E b)):l=ordF E:=
 ord_one (hp.trans (ordN_perm (fk E) E.length).symm) hs (ordN_sorted (fk E) E.length) fun a c b d e=>right_one h a (plc_lt (hp.mem_iff.1 c)).1 b (plc_lt (hp.mem_iff.1 d)).1 (plc_lt (hp.mem_iff.1 c)).2 e
theorem isnan_any(a:Int)(w:World):Calls Tryz.prog 85 #[.int .i64 a] w fun e w'=>e= .returned (.bool false)∧w'=w:=by
 have e:(a != a)=false:=by simp
 go_enter Tryz.func85,Tryz.ntmps85
 go_wp2_with fail
 go_ret;exact⟨by simp,rfl⟩
theorem compare_any(a b:Int)(w:World):Calls Tryz.prog 51 #[.int .i64 a,.int .i64 b] w fun e w'=>e= .returned (.int .i64 (cmpI a b))∧w'=w:=by
 go_enter Tryz.func51,Tryz.ntmps51
 go_wp2_with fail
 refine(isnan_any a w).mono ?_;rintro e c ⟨rfl,rfl⟩
 go_wp2_with fail
 refine(isnan_any b c).mono ?_;rintro e d ⟨rfl,rfl⟩;by_cases h:a<b
 ·have H:=κ (show cmpI a b= -1 by unfold cmpI;rw[if_pos h])
  go_wp2_with fail
  go_ret;exact⟨by rw[H.o];rfl,rfl⟩
 ·by_cases k:b<a
  ·have H:=κ (show cmpI a b=1 by unfold cmpI;rw[if_neg h,if_pos k])
   go_wp2_with fail
   go_ret;exact⟨by rw[H.o];rfl,rfl⟩
  ·have H:=κ (show cmpI a b=0 by unfold cmpI;rw[if_neg h,if_neg k])
   go_wp2_with fail
   go_ret;exact⟨by rw[H.o];rfl,rfl⟩
theorem mcmp_any(E:List He)(gl b o cL i j:Nat)(w:World)(hi:i<E.length)(hj:j<E.length)(h1:w.cell? ⟨gl,0,none⟩=some (.slice (some ⟨b,o,none⟩) E.length cL))(hc: ∀k,k<E.length→w.cell? ⟨b,o+k*21+2,none⟩=some (.int .i64 (fk E k))):
  Calls Tryz.prog 50 #[.int .i64 (i:Int),.int .i64 (j:Int),.pointer (some ⟨gl,0,none⟩)] w fun e w'=>e= .returned (.int .i64 (cmpI (fk E i) (fk E j)))∧ ∃q,w'=w.drewN q:=by
 have f:=hc i hi;have g:=hc j hj;have a:(i:Int)<(E.length:Int):=by omega
 have c:(j:Int)<(E.length:Int):=by omega
 clear hc
 go_enter Tryz.func50,Tryz.ntmps50
 go_wp2_with fail
 go_quiet ((go_at_call 51;exact Calls.quiet_of_same (compare_any _ _ _)))
 rename Nat=>d
 go_wp2_with fail
 go_ret;exact⟨rfl,d,rfl⟩
end Hmc
namespace Hck
open Kap Abv Go.ChangeShapes Go.WideShapes Go.ChangeAt Go.RowKit Go.Lib Tre Ref3 Law3 Fix3 Cfg Crd CrdB CrdC St7 Bkp Bks Stk Apt Wpl Hpa Hpl Hws Hrr Hod Tl5 Rul2 Mdp Mde Lac
open Mds (Pm plO)
open Mdd (Opn doF)
open Mdq (Vp Vp_do gX_mem)
open Mdg (bgnP)
open Rmg (rmbegin_any)
open Rmd (rmdo_any)
open Rmp (Rm Cq Rm_below)
variable {q:Mq} {base m:Nat} {P:Pm} {w:World}
theorem rq_of{g:Nat}(h:Rm base w g q)(hv:Vp m (plO q)):Mdo.Vq m q∧Mdj.Vo q:=by
 have f:(plO q).ac.length=q.al:=h.l2.symm;refine⟨⟨by rw[h.l1];exact hv.n,by rw[h.l2];exact hv.a,by rw[h.l2];exact hv.a1,by rw[h.l3];exact hv.s,hv.ws,hv.wa,hv.sh,?_,hv.wi,fun i d=>?_,hv.cr⟩,fun i d e j=>?_⟩
 ·have c:=hv.nb;rw[show(plO q).bs.length=q.nb from by show(q.xs.map Bx.b).length=_;rw[List.length_map];exact h.l4.symm]at c;exact c
 ·have c:=(hv.bk _ (gX_mem d)).1;rw[f]at c;exact c
 ·have c:=(hv.bk _ (gX_mem d)).2 e j;rw[f]at c;exact c
theorem ordF_len(E:List He):(ordF E).length≤E.length:=by
 rw[show ordF E=ordN (fk E) E.length from rfl,(ordN_perm (fk E) E.length).length_eq];exact Nat.le_trans (List.length_filter_le _ _) (by simp)
structure WfO(x:He):Prop where
 p:inI x.m.p
 q:inI x.m.q
 t:inI x.m.t
 y:x.m.y≤9223372036854775807
 v:x.m.v≤9223372036854775807
 s:inI x.sx
 e:inI x.ex
def WfE(E:List He):Prop:= ∀i,i<E.length→WfO (gH E i)
def chkF(n:Int)(E:List He)(P:Pm):Int:=if rightF n E=true then chkL E (ordF E) P else-2
def MadeI(x:Int)(w:World)(e:Ending)(w':World):Prop:=e= .returned (.int .i64 x)∧Below w.heap.size w w'
end Hck
namespace Hgr
open Kap Go.ChangeShapes Go.WideShapes Go.ChangeAt Go.RowKit Tre Ref3 Law3 Bkp Stk Apt Bko Rr4 Mdb Mde Lac Rmp Mdp
open Mdz (Mz FarE Mz_of)
section
variable {P:Program}{w:World}{ops:Array Oper}{rest:List Oper}{o:Oper}{a:Act}{Q:Exit→Act→World→Prop}{Bx:Nat}{base:Nat}{e:TypeId}{size n m nm c:Nat}{v:Value}{xs news:List Value}{A:Option Addr}
theorem wpList_appB(hown:Hid (w.ownsRow base e size v n xs))(hr:Hid (Rd w Bx A news))(hnm:nm=n+m)(hgd:o.guard=none)(s x:Operand)(t:TypeId)
 (ho:o.op= .call {callee:= .builtin .append,args:= #[s,x],argTypes:= #[t,t]})
 (i:TypeInfo)(z:Value)(bytes:Nat)(ht:P.underlying t=some (.slice e))(hi:P.info? e=some i)(hz:i.zero=some z)
 (hsize:i.size=size)(hby:i.bytes=bytes)(hzs:z.cells.size=size)(hsz:0<size)
 (hs:a.eval s=v)(hx:a.eval x= .slice A m c)(hl:news.length=m*size)(h1: ∀u∈news,u.oneCell'=true)
 (h63:n+m≤maxLen)(hbytes:(n+m)*bytes≤140737488355328)(hbase:base≤w.heap.size)
 (h: ∀A' c' w',Hid (w'.ownsRow base e size (.slice A' nm c') nm (xs++news))→Hid (w.grownBy w' v.ownBlock)→Hid ((Value.slice A' nm c').ownBlock=v.ownBlock∨(Value.slice A' nm c').ownBlock=some w.heap.size)→wpList P ops Q rest (a.put o.dst (.slice A' nm c')) w'):
 wpList P ops Q (o :: rest) a w:=by
 cases A with
 |some ad=>exact Bku.wpList_appA hown hr hnm hgd s x t ho i z bytes ht hi hz hsize hby hzs hsz hs hx hl h1 h63 hbytes hbase h
 |none=>
  have f:news=[]:=by
   rcases hr.out with h|⟨b,o,h,_⟩
   ·exact h
   ·cases h
  subst f
  have j:m=0:=by
   rcases Nat.eq_zero_or_pos m with h|h
   ·exact h
   ·have:=Nat.mul_pos h hsz;simp at hl;omega
  subst j;subst hnm;obtain⟨A',c',k,_⟩:=own_form hown.out;subst k;refine wpList_plain hgd fun _ l=>?_
  have d:=run_appNil w base t o.type e i size ht hi _ _ xs hown.out c;unfold Oper.wp execOp;simp only[ho,resolve,invoke,builtin,Sem.run_bind,Sem.run_pure,Result.andThen_ok,List.map_toArray,List.map_cons,List.map_nil,hs,hx,d];exact l _ _ (h A' c' w (κ (by simpa using hown.out)) (κ (grown_refl _ _)) (κ (.inl rfl)))
end
variable {q:Mq} {base B g n c n' c':Nat} {w w':World} {v:Value} {xs:List Value} {A':Option Addr}
theorem far_z{r:Option Nat}{X:Option Addr}{ys:List Value}(f: ∀z,r=some z→FarE z X ys):ys=[]∨ ∀a,X=some a→r≠some a.block:=by
 by_cases h:ys=[]
 ·exact .inl h
 ·refine .inr fun a b e=>?_
  rcases f _ e with h2|h2
  ·exact h h2
  ·exact h2 a b rfl
theorem rm_grown{te:TypeId}{s:Nat}(M:Rm base w g q)(O:w.ownsRow B te s v n xs)(h1:118≠te)(h2:122≠te)(k:w.grownBy w' v.ownBlock)(hz: ∀z,v.ownBlock=some z→Mz z g q):Rm base w' g q:=by
 have s:=fun {X:Option Addr} {ys:List Value} (hr:Rd w w.heap.size X ys) (f: ∀z,v.ownBlock=some z→FarE z X ys)=>Rd_grown hr k (far_z f)
 exact⟨blk_own_grown M.blk O h1 k,own_grown M.row O h2 k,M.gb,M.l1,M.l2,M.l3,M.l4,M.l5,M.l6,s M.nds fun z h=>(hz z h).z1,s M.ris fun z h=>(hz z h).z2,s M.smb fun z h=>(hz z h).z3,s M.cn fun z h=>(hz z h).z4,s M.cr fun z h=>(hz z h).z5,fun i b=>⟨s (M.bm i b).r fun z h=>((hz z h).zx i b).1,(M.bm i b).e,fun j d=>s ((M.bm i b).n j d) fun z h=>((hz z h).zx i b).2.2 j d,s (M.bm i b).o fun z h=>((hz z h).zx i b).2.1⟩,M.f1,M.f2,M.f3,M.f4,M.f5,M.fx⟩
theorem mm_grown(M:Mm base w g q)(O:w.ownsRow B 93 2 v n xs)(k:w.grownBy w' v.ownBlock)(hz: ∀z,v.ownBlock=some z→Mz z g q):Mm base w' g q:=by
 have s:=fun {X:Option Addr} {ys:List Value} (hr:Rd w w.heap.size X ys) (f: ∀z,v.ownBlock=some z→FarE z X ys)=>Rd_grown hr k (far_z f)
 exact⟨blk_own_grown M.blk O (by decide) k,own_grown M.row O (by decide) k,M.gb,M.l1,M.l2,M.l3,M.l4,M.l5,M.l6,s M.nds fun z h=>(hz z h).z1,s M.ris fun z h=>(hz z h).z2,s M.smb fun z h=>(hz z h).z3,s M.cn fun z h=>(hz z h).z4,s M.cr fun z h=>(hz z h).z5,fun i b=>⟨s (M.bm i b).r fun z h=>((hz z h).zx i b).1,(M.bm i b).e,fun j d=>s ((M.bm i b).n j d) fun z h=>((hz z h).zx i b).2.2 j d,s (M.bm i b).o fun z h=>((hz z h).zx i b).2.1⟩,M.f1,M.f2,M.f3,M.f4,M.f5,M.fx⟩
theorem own_kpr{te:TypeId}{s:Nat}(O:w.ownsRow B te s v n xs)(M:Rm base w g q)(h1:te≠118)(h2:te≠122)(k:Kp w w' g q.Ab):w'.ownsRow B te s v n xs:=by
 refine⟨O.1,?_⟩;rcases O.2 with h|⟨kk,cap,cur,hv,hg,hh,r⟩
 ·exact .inl h
 ·exact .inr ⟨kk,cap,cur,hv,hg,blk_dor (show Blk w kk te cur from hh) M h1 h2 k,r⟩
theorem own_kp{te:TypeId}(O:w.ownsRow B te 2 v n xs)(M:Mm base w g q)(h1:te≠144)(h2:te≠181)(k:Kp w w' g q.Ab):w'.ownsRow B te 2 v n xs:=by
 refine⟨O.1,?_⟩;rcases O.2 with h|⟨kk,cap,cur,hv,hg,hh,r⟩
 ·exact .inl h
 ·exact .inr ⟨kk,cap,cur,hv,hg,blk_do (show Blk w kk te cur from hh) M h1 h2 k,r⟩
theorem mz_push{r s:Option Nat}{k:Nat}(ho:r=s∨r=some k)(hz: ∀z,s=some z→Mz z g q)(hk:Mz k g q): ∀z,r=some z→Mz z g q:=fun z h=>by
 rcases ho with e|e
 ·exact hz z (e ▸ h)
 ·rw[e]at h;injection h with h;exact h ▸ hk
theorem rd_off{X:Option Addr}{ys:List Value}{te:TypeId}{s:Nat}(h:Rd w w.heap.size X ys)(O:w.ownsRow B te s v n xs)(hb:ys=[]∨ ∀a,X=some a→a.block<B)(k:w.grownBy w' v.ownBlock):Rd w' w'.heap.size X ys:=by
 rcases hb with h0|hb
 ·exact .inl h0
 ·exact Rd_grown h k (.inr fun a b e=>by have d:=hb a b;have f:=(World.ownsRow.lt O _ e).1;omega)
theorem rd_lt{X:Option Addr}{ys:List Value}{b:Nat}(h:Rd w b X ys):ys=[]∨ ∀a,X=some a→a.block<b:=by
 rcases h with h|⟨g,o,hA,hb,_⟩
 ·exact .inl h
 ·exact .inr fun a d=>by rw[hA]at d;injection d with d;rw[←d];exact hb
end Hgr
namespace Hbg
open Kap Abv Go.ChangeShapes Go.WideShapes Go.ChangeAt Go.RowKit Go.Lib Tre Ref3 Law3 Fix3 Cfg Crd CrdB CrdC St7 Bkp Bks Stk Apt Wpl Hpa Hpl Hws Hti Hri Tl5 Mdp Mde
open Mds (Pm plO)
open Mdg (bgnP mbegin_any)
def MadeBg(ok:Bool)(P:Pm)(w:World)(e:Ending)(w':World):Prop:=Below w.heap.size w w'∧(ok=false→e= .returned (.tuple #[.pointer none,.bool false]))∧(ok=true→ ∃gm qm base,e= .returned (.tuple #[.pointer (some ⟨gm,0,none⟩),.bool true])∧Mm base w' gm qm∧plO qm=P∧w.heap.size≤base)
theorem hbegin_any(n:Int)(E:List He)(sN:Nat)(wi ra ta:Int)(A B C Al:Option Addr)(nl al sl c d f cL:Nat)(nd:List (Int×Int))(ac:List Int)(sy:List (Int×Int×Int×Nat))(w:World)(L1:Hid (nl=nd.length))(L2:Hid (al=ac.length))(L3:Hid (sl=sy.length))
  (hn:Hid (Nds w w.heap.size A nd))(ha:Hid (Ris w w.heap.size B ac))(hs:Hid (Smb w w.heap.size C sy))(hwn:Hid (WfN nd))(m1:nl≤1000)(m2:al≤1000)(m3:sl≤1000)(hcf:Hid (cfgF (sN:Int) wi ra ta nd ac sy=0))
  (hl:Hid (Rd w w.heap.size Al (hrow E)))(hE:Hid (WfH E))(hm:E.length≤800):
  Calls Tryz.prog 26 #[.agg (vC (sN:Int) wi ra ta A nl c B al d C sl f),.int .i64 n,.slice Al E.length cL] w (MadeBg (rightF n E) (bgnP (sN:Int) wi ra ta nd ac sy) w):=by
 have i:=κ (β w (.cells (vC (sN:Int) wi ra ta A nl c B al d C sl f) 43));have m:=κ (Blk.fresh w 43 (vC (sN:Int) wi ra ta A nl c B al d C sl f))
 go_enter Tryz.func26,Tryz.ntmps26
 go_upto_region 1 with fail
 generalize w.alloc (.cells (vC (sN:Int) wi ra ta A nl c B al d C sl f) 43)=z at i m ⊢;generalize w.heap.size=gB at m ⊢
 go_wp2_with fail
 refine(right_any n E Al cL z (κ (Rd.below' hl.o i.o i.o.size)) hE (by omega)).mono ?_;rintro e o ⟨rfl,b⟩;have a:=κ (bst i.o b);have q:=κ (m.o.below' b);clear m i b;by_cases hR:rightF n E=true
 ·have p:=κ hR;rw[hR];clear hR;obtain⟨F,G,H,I,J,K,L⟩:=c7_of q.o
  go_wp2_with fail
  refine(mbegin_any (sN:Int) wi ra ta A B C nl al sl c d f nd ac sy o L1 L2 L3 (θ hn.o a.o) (η ha.o a.o) (κ (Rd.below' hs.o a.o a.o.size)) hwn (by omega) (by omega) (by omega)).mono ?_;rintro e R ⟨j,_,k⟩;obtain⟨r,O,rfl,s,t⟩:=k hcf.o;have x:=κ s;have P:=κ t;have Q:=κ (bst a.o j);have y:Hid (w.heap.size≤o.heap.size):=κ a.o.size;generalize o.heap.size=l at x y;clear F G H I J K L q a j k s t
  go_wp2_with fail
  refine bodyPost_ret (v:= .tuple #[.pointer (some (α r 0)),.bool true]) (by simp[results,Tryz.results26,go_sem]) rfl ?_;exact⟨Q.o,fun h=>absurd h (by rw[p.o];decide),fun _=>⟨r,O,l,rfl,x.o,P.o,y.o⟩⟩
 ·have g:=Bool.eq_false_iff.2 hR;rw[g];clear hR;have p:=κ g;clear g
  go_wp2_with fail
  refine bodyPost_ret (v:= .tuple #[.pointer none,.bool false]) (by simp[results,Tryz.results26,go_sem]) rfl ?_;exact⟨a.o,fun _=>rfl,fun h=>absurd h (by rw[p.o];decide)⟩
end Hbg
namespace Hof
open Abv Kap Go.ChangeShapes Go.WideShapes Go.ChangeAt Go.RowKit Go.Lib Tre Ref3 Law3 Wpl Hpa Hpl
def MadeOf(ys:List (Int×Int))(w:World)(e:Ending)(w':World):Prop:= ∃A c,e= .returned (.slice A ys.length c)∧Nds w' w'.heap.size A ys∧Below w.heap.size w w'∧ys.length≤c
theorem own_cap{w:World}{base s n c:Nat}{e:TypeId}{A:Option Addr}{xs:List Value}(h:w.ownsRow base e s (.slice A n c) n xs):n≤c:=by
 rcases h.2 with⟨a,i⟩|⟨g,b,d,a,_,_,f,_⟩
 ·omega
 ·injection a with _ _ h4;rw[h4];exact f
theorem of_snoc{l:List (Int×Int)}{i:Nat}(h:i<l.length)(n s:Int):ofF (l.take (i+1)) n s=if nC l i%n=s then ofF (l.take i) n s++[(nP l i,nC l i)] else ofF (l.take i) n s:=by
 rw[take_snoc h];unfold ofF;rw[List.filter_append];by_cases e:nC l i%n=s
 ·rw[if_pos e];simp[e]
 ·rw[if_neg e];simp[e]
theorem out_i:(Tryz.prog.info? 93).map (fun i=>(i.zero,i.size,i.bytes))=some (some (.agg #[.int .i64 0,.int .i64 0]),2,16):=by kernel_rfl
theorem of_any(l:List (Int×Int))(A:Option Addr)(c:Nat)(n s:Int)(w:World)(hl:Hid (Nds w w.heap.size A l))(hid:Hid (∀i,i<l.length→0≤nC l i))(hn:1≤n∧n≤1000)(hm:l.length≤100000):Calls Tryz.prog 36 #[.slice A l.length c,.int .i64 s,.int .i64 n] w (MadeOf (ofF l n s) w):=by
 obtain⟨S,T,x,y,C⟩:=info_parts out_i;have V: ¬n=0:=by omega
 go_enter Tryz.func36,Tryz.ntmps36
 go_wp2_with fail
 go_loopg [7,12] l.length (fun g W X P=> ∃(i e:Nat) (j:Option Addr) (k:Nat),i+g=l.length∧X= ι i∧W= .slice j e k∧Hid (e≤i∧e=(ofF (l.take i) n s).length)∧Hid (World.ownsRow P w.heap.size 93 2 (.slice j e k) e (nds (ofF (l.take i) n s)))∧Hid (Below w.heap.size w P))
 case atStart=>exact⟨0,0,none,0,by omega,rfl,rfl,κ ⟨τ,rfl⟩,κ (World.ownsRow_nil _ _ _ _),κ ψ⟩
 case round=>
  obtain⟨i,e,j,k,Y,rfl,rfl,d,O,U⟩:=hrel
  rename World=>r
  by_cases hlt:i<l.length
  ·obtain⟨g,rfl⟩: ∃g,gk=g+1:=⟨gk-1,by omega⟩;have m:((i:Nat):Int)<((l.length:Nat):Int):=by omega
   obtain⟨b,o,rfl,Z,Q⟩:=Nds.at (Rd.below' hl.o U.o U.o.size) (by omega);obtain⟨E,F⟩:=Q i hlt;have t:=hid.o i hlt;have a:=κ (of_snoc hlt n s);have aa:Hid (i<100000):=κ (by omega);clear Q Z;generalize nP l i=p at E a;generalize nC l i=q at F a t;have hr:q.tmod n=q%n:=Int.tmod_eq_emod_of_nonneg t;generalize hz:q%n=z at hr a;clear hz
   go_upto_region 5 with fail
   have K:=κ (Blk.fresh r 93 (vI p q));have G:=κ (bst U.o (β r (.cells (vI p q) 93)));have H:=own_below O (β r (.cells (vI p q) 93));clear E F O U;generalize r.alloc (.cells (vI p q) 93)=wq at K G H ⊢;have E:=χ (K.o.cell 0);have F:=χ (K.o.cell 1);have O:=H;have v:=G.o;clear H G;by_cases he:z=s
   ·have I:(z==s)=true:=beq_iff_eq.2 he;have J:(0:Int)≤q:=t;rw[if_pos he]at a;clear he
    go_wp2_with (at_builtin;refine wpList_app1 O v rfl _ _ _ rfl S (.agg #[.int .i64 0,.int .i64 0]) 16 Tryz.underlying47 T x y C rfl (by decide) rfl rfl rfl [.int .i64 p,.int .i64 q] rfl rfl (by simp[Value.oneCell']) (by have:=d.o;unfold maxLen;omega) (by have:=d.o;omega) τ v.size v.size ?_;intro A1 c1 w1 f h R)
    go_roundg g
    case measure=>omega
    case rel=>exact⟨i+1,e+1,A1,c1,by omega,by go_num,rfl,κ ⟨by have:=d.o;omega,by rw[a.o,List.length_append,←d.o.2];rfl⟩,κ (by rw[a.o,nds_snoc];exact f.o),κ h⟩
   ·have I:(z==s)=false:=beq_eq_false_iff_ne.2 he;have J:(0:Int)≤q:=t;rw[if_neg he]at a
    go_wp2_with fail
    go_roundg g
    case measure=>omega
    case rel=>exact⟨i+1,e,j,k,by omega,by go_num,rfl,κ ⟨by have:=d.o;omega,by rw[a.o];exact d.o.2⟩,κ (by rw[a.o];exact O.o),κ v⟩
  ·have m: ¬((i:Nat):Int)<((l.length:Nat):Int):=by omega
   obtain rfl:i=l.length:=by omega
   rw[List.take_length]at d O;have L:=d.o.2;subst L
   go_wp2_with fail
   go_ret;exact⟨j,k,rfl,Rd.of_own O.o,U.o,own_cap O.o⟩
theorem rout_i:(Tryz.prog.info? 71).map (fun i=>(i.zero,i.size,i.bytes))=some (some (.agg #[.int .i64 0,.int .i64 0]),2,16):=by kernel_rfl
end Hof
namespace Hun
open Abv Kap Go.ChangeShapes Go.WideShapes Go.ChangeAt Go.RowKit Go.Lib Tre Ref3 Law3 Wpl Hpa
theorem under_any(x:He)(w:World):Calls Tryz.prog 35 #[.agg (hA x)] w (MadeB (x.k != 0&&x.e==0) w):=by
 have U:=κ (β w (.cells (hA x) 81));have K:=κ (Blk.fresh w 81 (hA x))
 go_enter Tryz.func35,Tryz.ntmps35
 go_upto_region 1 with fail
 generalize w.alloc (.cells (hA x) 81)=c at U K ⊢;generalize w.heap.size=d at K ⊢;have f:=χ (K.o.cell 2);have g:=χ (K.o.cell 3);generalize x.k=a at *;generalize x.e=i at *;by_cases h:a=0
 ·subst h
  go_wp2_with fail
  go_ret;exact madeB_mk rfl U.o
 ·have b:(a != 0)=true:=bne_iff_ne.2 h
  go_wp2_with fail
  go_ret;exact madeB_mk (by rw[b];rfl) U.o
theorem neg_any(p q:Int)(w:World):Calls Tryz.prog 33 #[.agg #[.int .i64 p,.int .i64 q]] w (MadeB (decide (q<0)) w):=by
 have U:=κ (β w (.cells (vI p q) 93))
 go_enter Tryz.func33,Tryz.ntmps33
 go_wp2_with fail
 go_ret;exact madeB_mk rfl U.o
end Hun
namespace Hou
open Kap Go.ChangeShapes Go.WideShapes Go.ChangeAt Go.RowKit Go.Lib Tre Ref3 Law3 Wpl Hpa Hpl Hof
theorem outs_any(l:List (Int×Int))(A:Option Addr)(c:Nat)(w:World)(hl:Hid (Nds w w.heap.size A l))(hmax:l.length≤100000):Calls Tryz.prog 15 #[.slice A l.length c] w (MadeOf l w):=by
 obtain⟨v,x,n,p,q⟩:=info_parts out_i
 go_enter Tryz.func15,Tryz.ntmps15
 go_wp2_with fail
 go_loopg [3,4] l.length (fun g y z r=> ∃(k:Nat) (j:Option Addr) (m:Nat),k+g=l.length∧z= ι k∧y= .slice j k m∧Hid (World.ownsRow r w.heap.size 93 2 (.slice j k m) k (nds (l.take k)))∧Below w.heap.size w r)
 case atStart=>exact⟨0,none,0,by omega,rfl,rfl,World.ownsRow_nil _ _ _ _,Below.refl _ _⟩
 case round=>
  obtain⟨k,j,m,H,rfl,rfl,d,a⟩:=hrel
  rename World=>I
  by_cases hlt:k<l.length
  ·obtain⟨g,rfl⟩: ∃g,gk=g+1:=⟨gk-1,by omega⟩;have h:((k:Nat):Int)<((l.length:Nat):Int):=by omega
   obtain⟨b,o,rfl,J,s⟩:=Nds.at (Rd.below' hl.o a a.size) (by omega);obtain⟨C,E⟩:=s k hlt;clear s;have i:Hid (nds (l.take (k+1))=nds (l.take k)++[.int .i64 (nP l k),.int .i64 (nC l k)]):=κ (by rw[take_snoc hlt,nds_snoc])
   go_wp2_with fail
   go_region_law ((refine step_app1 (own_drew d) (below_drew a) rfl _ _ _ rfl v (.agg #[.int .i64 0,.int .i64 0]) 16 Tryz.underlying47 x n p q rfl (by decide) rfl rfl rfl [.int .i64 (nP l k),.int .i64 (nC l k)] rfl rfl (by simp[Value.oneCell']) (by unfold maxLen;omega) (by omega) τ a.size a.size ?_;intro F G K e f t))
   all_goals
    go_wp2_with fail
    go_roundg g
    case measure=>omega
    case rel=>exact⟨k+1,F,G,by omega,by go_num,rfl,by rw[i.o];exact e,f⟩
  ·have h: ¬((k:Nat):Int)<((l.length:Nat):Int):=by omega
   obtain rfl:k=l.length:=by omega
   rw[List.take_length]at d
   go_wp2_with fail
   go_ret;exact⟨j,m,rfl,Rd.of_own d.o,a,own_cap d.o⟩
end Hou
end Go.Proofs.YtcccdikhfgpamaaGreat
