/- Texts side by side. -/
import Derived.Test.YtcccdikhfgpamaaGreatUfam
import Derived.Test.YtcccdikhfgpamaaGreatUfao
import Derived.Test.YtcccdikhfgpamaaGreatUfap
set_option linter.unusedVariables false
set_option linter.unusedSimpArgs false
set_option maxRecDepth 100000
set_option maxHeartbeats 16000000
namespace Go.Proofs.YtcccdikhfgpamaaGreat
open Kap Abv Lax Go.ChangeShapes Go.WideShapes Go.ChangeAt Go.RowKit Mem Tre Ref3 Law3 Fix3 Cfg Crd CrdB CrdC Rr4 Rul3 Res Rsf Bkp Bks Bkf Bcl Dlk Stk Apt Bko Bku Bka Bkc Bki Bkq Mdp Mdz Mds Lat
namespace Mdo
open Rul1 hiding below_step
variable {p:Pm} {w:World}
theorem Bm_st4{base gB:Nat}{A C:Option Addr}{rl:List Rc}{b:Bk}(h:Bm w A C rl b)(hf:Fb base A C rl)(hg:gB<base)(v0 v1 v2 v3:Value):Bm (st4 w gB v0 v1 v2 v3) A C rl b:=by
 have k: ∀{X:Option Addr} {d:List Value},Rd w w.heap.size X d→(∀a,X=some a→base≤a.block)→Rd (st4 w gB v0 v1 v2 v3) (st4 w gB v0 v1 v2 v3).heap.size X d:=by
  intro X d g j;have c: ∀a,X=some a→a.block≠gB:=fun a l=>by have:=j a l;omega
  unfold st4;exact Rd.keep' (Rd.keep' (Rd.keep' (Rd.keep' g (Nat.lt_succ_self _) c _) (Nat.lt_succ_self _) c _) (Nat.lt_succ_self _) c _) (Nat.lt_succ_self _) c _
 exact⟨k h.r hf.1,h.e,fun i f=>k (h.n i f) (hf.2.2 i f),k h.o hf.2.1⟩
theorem wpL_two{P:Program}{ops:Array Oper}{Q:Exit→Act→World→Prop}{md:Region.Mode}{T:World→Prop}{st:List Nat}{m n k:Nat}{om on:Oper}{up:Array Bool}{a:Act}(hr:Region.ready md ops up=[m,n])(hm:ops[m]? =some om)(hn:ops[n]? =some on)
  (h1: ∀K:Act→World→Prop,Shut (∀a w,T w→wpL P md ops Q T st k (up.setIfInBounds m true) a w→K a w)→if Region.wanted om (yielded ops a.tmps)=true then Oper.wp P om a w K Q else K (a.put om.dst undef) w)
  (h2: ∀K:Act→World→Prop,Shut (∀a w,T w→wpL P md ops Q T st k (up.setIfInBounds n true) a w→K a w)→if Region.wanted on (yielded ops a.tmps)=true then Oper.wp P on a w K Q else K (a.put on.dst undef) w):
  wpL P md ops Q T st (k+1) up a w:=by
 refine⟨fun e=>(by rw[hr]at e;cases e),?_⟩;rw[hr];intro j f;simp only[List.mem_cons,List.not_mem_nil,or_false]at f;rcases f with rfl|rfl
 ·exact wpOp_step hm (fun K b=>h1 K (fun a w c d=>b a w ⟨fun _=>c,d⟩))
 ·exact wpOp_step hn (fun K b=>h2 K (fun a w c d=>b a w ⟨fun _=>c,d⟩))
def bk0:Bk:=⟨0,0,[],[]⟩
def gB(l:List Bk)(i:Nat):Bk:=l.getD i bk0
def worF(p:Pm)(o:Od):Int×Int:=lokF p.ac p.sy o.a o.s o.p o.q o.n o.t
def shaP(p:Pm)(o:Od):Nat:=(shaF p.sh p.ac.length o.a).toNat
def ordF(p:Pm)(o:Od):Pm×(Int×Int×List (Int×Int)):=
 if p.off=true then (p,(2,0,[]))
 else if (worF p o).1≠0 then (p,((worF p o).1,0,[]))
 else if lookF p.ra p.ta (gB p.bs (shaP p o)) o≠0 then (p,(lookF p.ra p.ta (gB p.bs (shaP p o)) o,0,[]))
 else if (Cpl.resF p.cl p.cu (gI p.ac o.a.toNat) (worF p o).2).1≠0 then (p,((Cpl.resF p.cl p.cu (gI p.ac o.a.toNat) (worF p o).2).1,0,[]))
 else ({p with bs:=p.bs.set (shaP p o) (Bks.addF p.sh p.wi (gB p.bs (shaP p o)) o p.ep),cu:=Cpl.resU p.cl p.cu (gI p.ac o.a.toNat) (worF p o).2},
  (0,(gB p.bs (shaP p o)).sh+p.sh*(gB p.bs (shaP p o)).ca,[(0,(gB p.bs (shaP p o)).sh+p.sh*(gB p.bs (shaP p o)).ca)]))
theorem ord_off{o:Od}(h:p.off=true):ordF p o=(p,(2,0,[])):=by unfold ordF;rw[if_pos h]
theorem ord_lok{o:Od}(h:p.off=false)(h1:(worF p o).1≠0):ordF p o=(p,((worF p o).1,0,[])):=by unfold ordF;rw[if_neg (by rw[h];decide),if_pos h1]
theorem ord_look{o:Od}(h:p.off=false)(h1: ¬(worF p o).1≠0)(h2:lookF p.ra p.ta (gB p.bs (shaP p o)) o≠0):ordF p o=(p,(lookF p.ra p.ta (gB p.bs (shaP p o)) o,0,[])):=by unfold ordF;rw[if_neg (by rw[h];decide),if_neg h1,if_pos h2]
theorem ord_res{o:Od}(h:p.off=false)(h1: ¬(worF p o).1≠0)(h2: ¬lookF p.ra p.ta (gB p.bs (shaP p o)) o≠0)(h3:(Cpl.resF p.cl p.cu (gI p.ac o.a.toNat) (worF p o).2).1≠0):
  ordF p o=(p,((Cpl.resF p.cl p.cu (gI p.ac o.a.toNat) (worF p o).2).1,0,[])):=by unfold ordF;rw[if_neg (by rw[h];decide),if_neg h1,if_neg h2,if_pos h3]
theorem ord_res'{o:Od}{r1:Int}(h:p.off=false)(h1: ¬(worF p o).1≠0)(h2: ¬lookF p.ra p.ta (gB p.bs (shaP p o)) o≠0)(hr:(Cpl.resF p.cl p.cu (gI p.ac o.a.toNat) (worF p o).2).1=r1)(h3:r1≠0):ordF p o=(p,(r1,0,[])):=by
 have:=ord_res h h1 h2 (by rw[hr];exact h3);rw[hr]at this;exact this
theorem ord_new{o:Od}(h:p.off=false)(h1: ¬(worF p o).1≠0)(h2: ¬lookF p.ra p.ta (gB p.bs (shaP p o)) o≠0)(h3: ¬(Cpl.resF p.cl p.cu (gI p.ac o.a.toNat) (worF p o).2).1≠0):
  ordF p o=({p with bs:=p.bs.set (shaP p o) (Bks.addF p.sh p.wi (gB p.bs (shaP p o)) o p.ep),cu:=Cpl.resU p.cl p.cu (gI p.ac o.a.toNat) (worF p o).2},
  (0,(gB p.bs (shaP p o)).sh+p.sh*(gB p.bs (shaP p o)).ca,[(0,(gB p.bs (shaP p o)).sh+p.sh*(gB p.bs (shaP p o)).ca)])):=by unfold ordF;rw[if_neg (by rw[h];decide),if_neg h1,if_neg h2,if_neg h3]
structure Vq(m:Nat)(q:Mq):Prop where
 nl:q.nl≤100
 al:q.al≤100
 al1:1≤q.al
 sl:q.sl≤100
 ws:WfS q.sy
 wa:WfI q.ac
 sh:1≤q.sh∧q.sh≤1000
 nb:(q.nb:Int)=q.sh
 wi:0≤q.wi∧q.wi≤1000
 bk: ∀i,i<q.xs.length→Fw m (gX q.xs i).b∧(gX q.xs i).b.rows.length=q.al
 cr:GoodSt q.cl q.cu
theorem lok_ok{ac:List Int}{sy:List (Int×Int×Int×Nat)}{a s p q n t:Int}(h: ¬(lokF ac sy a s p q n t).1≠0):inR ac.length a=true∧ -9223372036854775808≤(lokF ac sy a s p q n t).2∧(lokF ac sy a s p q n t).2≤9223372036854775807:=by
 have b:(lokF ac sy a s p q n t).1=0:=by omega
 unfold lokF at b ⊢;split at b
 ·simp at b
 ·rename_i c1
  rw[if_neg c1];split at b
  ·simp at b
  ·rename_i c2
   rw[if_neg c2];split at b
   ·simp at b
   ·rename_i c3
    rw[if_neg c3];split at b
    ·simp at b
    ·rename_i c4
     rw[if_neg c4];split at b
     ·simp at b
     ·rename_i c5
      rw[if_neg c5];split at b
      ·simp at b
      ·rename_i c6
       rw[if_neg c6];split at b
       ·simp at b
       ·rename_i c7
        rw[if_neg c7];have c:Fix.inB (p*q)=true:=by simpa using c5
        simp only[Fix.inB,Bool.and_eq_true,decide_eq_true_eq]at c;exact⟨by simpa using c2,c.1,c.2⟩
theorem order_any(base g m:Nat)(q:Mq)(oa os op oq on ot:Int)(ox:Bool)(w:World)(h:Hid (Mm base w g q))(hv:Hid (Vq m q))(hm:m≤900)(hp:inI op)(hq:inI oq):
  Calls Tryz.prog 55 #[.pointer (some ⟨g,0,none⟩),.agg #[.int .i64 oa,.int .i64 os,.bool ox,.int .i64 op,.int .i64 oq,.int .i64 on,.int .i64 ot]] w (MadeDo base g q (ordF (plO q) ⟨oa,os,ox,op,oq,on,ot⟩).1 (ordF (plO q) ⟨oa,os,ox,op,oq,on,ot⟩).2.1 (ordF (plO q) ⟨oa,os,ox,op,oq,on,ot⟩).2.2.1 (ordF (plO q) ⟨oa,os,ox,op,oq,on,ot⟩).2.2.2 w):=by
 obtain⟨J,wi,R,S,A,B,C,U,P,V,c,d,f,nd,K,sy,Ab,Y,Z,E,An,Au,H,n2,d1,d2,T,cu,ep,aV⟩:=q;obtain⟨v1,v2,dt,v3,v4,v5,v6,v7,v8,v9,cF⟩:=hv.o;obtain⟨l1,l2,l3,l4,l5,l6⟩:=(⟨h.o.l1,h.o.l2,h.o.l3,h.o.l4,h.o.l5,h.o.l6⟩:U=nd.length∧P=K.length∧V=sy.length∧Y=E.length∧H=T.length∧n2=cu.length);have L1:=κ l1;have L2:=κ l2;have L3:=κ l3;have L4:=κ l4;have L5:=κ l5;have L6:=κ l6;have V4:=κ v4;have V5:=κ v5;have V7:=κ v7;have V9:=κ v9;have du:=κ cF;simp only at v1 v2 dt v3 v6 v8;obtain⟨l,cG⟩:=own_at h.o.row (by show 0<Y;simp only at v7;omega);obtain⟨L,O,cH,cI,cJ⟩:=Ris.at (i:=0) h.o.ris (by show 0<K.length;omega);simp only at cG cH;subst cG;subst cH;obtain⟨Q,dv⟩: ∃k:Nat,wi=k:=⟨wi.toNat,by omega⟩;have dw:Q≤1000:=by omega
 subst dv;have dx:=κ cJ;clear l1 l2 l3 l4 l5 l6 v4 v5 v7 v9 cF cJ;have U0:=κ (γ w (.cells (vO oa os ox op oq on ot) 75) (.cells (vI 0 0) 74));have O0:=κ ((Blk.fresh w 75 (vO oa os ox op oq on ot)).alloc (.cells (vI 0 0) 74));have Z0:=κ (δ (w.alloc (.cells (vO oa os ox op oq on ot) 75)) 74 (vI 0 0) (w.heap.size+1));have M0:=κ (Mm_below h.o U0.o);have cK:Hid (Mz (w.heap.size+1) g ⟨J,(Q:Int),R,S,A,some (α L O),C,U,P,V,c,d,f,nd,K,sy,some (α l 0),Y,Z,E,An,Au,H,n2,d1,d2,T,cu,ep,aV⟩):=Mz_of h.o (by omega);have dV:=κ ((Mm_lt h.o).1)
 go_enter Tryz.func55,Tryz.ntmps55
 go_upto_region 1 with fail
 obtain⟨gO,bW⟩:=ν w.heap.size;obtain⟨gZ,bz⟩:=ν (w.heap.size+1);have O1:=κ (ζ bW O0.o);have Z1:=κ (ζ bz Z0.o);have MZ:Hid (Mz gZ g ⟨J,(Q:Int),R,S,A,some (α L O),C,U,P,V,c,d,f,nd,K,sy,some (α l 0),Y,Z,E,An,Au,H,n2,d1,d2,T,cu,ep,aV⟩):=by rw[bz];exact cK.o
 have ar:Hid (w.heap.size≤gZ):=by show _≤_;omega
 simp only[←bz];simp only[←bW];clear bW bz O0 Z0 cK;generalize ((w.alloc (.cells (vO oa os ox op oq on ot) 75)).alloc (.cells (vI 0 0) 74))=w0 at O1 Z1 U0 M0 ⊢;have K0:Hid (Blk w0 g 144 (vQ J (Q:Int) R S A U c (some (α L O)) P d C V f (some (α l 0)) Y Z An H d1 Au n2 d2 ep aV)):=M0.o.blk;obtain⟨k0,k1,k2,k3,k4,k5,k6,k7,k8,k9,bX,bY,f0,f1,f2,f3,f4,f5,f6,f7,f8,f9,bZ,b0⟩:=q12_of K0.o;by_cases hoff:aV=true
 case pos=>
  subst hoff;have aH:Hid (ordF (plO ⟨J,(Q:Int),R,S,A,some (α L O),C,U,P,V,c,d,f,nd,K,sy,some (α l 0),Y,Z,E,An,Au,H,n2,d1,d2,T,cu,ep,true⟩) ⟨oa,os,ox,op,oq,on,ot⟩=((plO ⟨J,(Q:Int),R,S,A,some (α L O),C,U,P,V,c,d,f,nd,K,sy,some (α l 0),Y,Z,E,An,Au,H,n2,d1,d2,T,cu,ep,true⟩),(2,0,[]))):=ord_off rfl
  go_wp2_with fail
  refine(refused_any 2 _).mono ?_;rintro e wR ⟨rfl,am⟩;have ai:=κ (CrdB.below_step (κ (Below.refl w0.heap.size w0)).o am);have M1:=κ (Mm_below M0.o ai.o);have Z2:=κ (Blk.below' Z1.o ai.o);have U1:Hid (Kp w wR g (some (α l 0))):=Kp_of_below (CrdB.below_step U0.o ai.o);clear am;obtain⟨z0,z1,z2,z3⟩:=q2b Z2.o;have F3:Blk (st2 wR gZ (ι 2) (ι 0)) gZ 74 (vI 2 0):=st2_blk Z2.o
  have aj:MadeDo base g ⟨J,(Q:Int),R,S,A,some (α L O),C,U,P,V,c,d,f,nd,K,sy,some (α l 0),Y,Z,E,An,Au,H,n2,d1,d2,T,cu,ep,true⟩ (plO ⟨J,(Q:Int),R,S,A,some (α L O),C,U,P,V,c,d,f,nd,K,sy,some (α l 0),Y,Z,E,An,Au,H,n2,d1,d2,T,cu,ep,true⟩) 2 0 [] w (.returned (.tuple #[.agg (vI 2 0),.slice none 0 0])) (st2 wR gZ (ι 2) (ι 0)):=by
   unfold st2;refine madeDo_no (q:=⟨J,(Q:Int),R,S,A,some (α L O),C,U,P,V,c,d,f,nd,K,sy,some (α l 0),Y,Z,E,An,Au,H,n2,d1,d2,T,cu,ep,true⟩) (Mm_setz (Mm_setz M1.o MZ.o Z2.o (by decide) 0 _) MZ.o (blk_st Z2.o 0 _) (by decide) 1 _) rfl rfl ?_ (fun z _ h=>Mz_same h);exact Kp_past (Kp_past U1.o (ar.o) 0 _) (ar.o) 1 _
  have HF:=κ aj;clear aj
  go_wp2_with fail
  obtain⟨e0,e1,_,_⟩:=q2b F3;clear F3;unfold st2 at e0 e1 HF;exact bodyPost_ret (v:= .tuple #[.agg #[ι 2,ι 0],.slice none 0 0]) (by simp[results,Tryz.results55,go_sem,e0,e1]) rfl (by rw[aH.o];exact HF.o)
 case neg=>
  have dy:aV=false:=by simpa using hoff
  subst dy;clear hoff
  go_upto_region 3 with fail
  clear k0 k1 k2 k3 k4 k5 k6 k7 k8 k9 bX bY f0 f1 f2 f3 f4 f5 f6 f7 f8 f9 bZ b0 K0;obtain⟨wc,ww,b1⟩: ∃a b,worF (plO ⟨J,(Q:Int),R,S,A,some ⟨L,O,none⟩,C,U,P,V,c,d,f,nd,K,sy,some ⟨l,0,none⟩,Y,Z,E,An,Au,H,n2,d1,d2,T,cu,ep,false⟩) ⟨oa,os,ox,op,oq,on,ot⟩=(a,b):=⟨_,_,rfl⟩;have LK:=look_any J (Q:Int) R S A (some (α L O)) C c d f nd K sy oa os ox op oq on ot w0.drew M0.o.smb V4 hp hq (by rw[←L2.o];omega) (by rw[←L3.o];omega);rw[show lokF K sy oa os op oq on ot=(wc,ww) from b1,←L1.o,←L2.o,←L3.o]at LK;have aI:=κ b1;clear b1;let b2:World→Prop:=fun F=>F.cell? (α g 0)=some (ι J)∧F.cell? (α g 1)=some (ι (Q:Int))∧F.cell? (α g 2)=some (ι R)∧F.cell? (α g 3)=some (ι S)∧F.cell? (α g 4)=some (.slice A U c)∧F.cell? (α g 5)=some (.slice (some (α L O)) P d)∧F.cell? (α g 6)=some (.slice C V f)∧F.cell? (α gO 0)=some (ι oa)∧F.cell? (α gO 1)=some (ι os)∧F.cell? (α gO 2)=some (.bool ox)∧F.cell? (α gO 3)=some (ι op)∧F.cell? (α gO 4)=some (ι oq)∧F.cell? (α gO 5)=some (ι on)∧F.cell? (α gO 6)=some (ι ot)
  have I:Hid (b2 (w0.drew)):=⟨M0.o.blk.cell 0,M0.o.blk.cell 1,M0.o.blk.cell 2,M0.o.blk.cell 3,M0.o.blk.cell 4,M0.o.blk.cell 5,M0.o.blk.cell 6,O1.o.cell 0,O1.o.cell 1,O1.o.cell 2,O1.o.cell 3,O1.o.cell 4,O1.o.cell 5,O1.o.cell 6⟩;refine Ω b2 [] ?_;refine jA 0 I.o ?_;refine jA 1 I.o ?_;refine jA 2 I.o ?_;refine jB 3 I.o ?_;refine jB 4 I.o ?_;refine jN 5 fun K' hK=>?_
  go_simp;refine LK.mono ?_;rintro e w1 ⟨rfl,cL⟩;have bA:=κ (CrdB.below_step (Below.drew ψ) cL);have M1:=κ (Mm_below M0.o bA.o);have O2:=κ (Blk.below' O1.o bA.o);have y:Hid (b2 w1):=⟨M1.o.blk.cell 0,M1.o.blk.cell 1,M1.o.blk.cell 2,M1.o.blk.cell 3,M1.o.blk.cell 4,M1.o.blk.cell 5,M1.o.blk.cell 6,O2.o.cell 0,O2.o.cell 1,O2.o.cell 2,O2.o.cell 3,O2.o.cell 4,O2.o.cell 5,O2.o.cell 6⟩;clear cL LK
  go_wp2_with fail
  refine hK.out _ _ y.o ?_;clear hK K';refine jP ?_;refine jA 6 y.o ?_;refine jA 7 y.o ?_;refine jA 8 y.o ?_;refine jA 9 y.o ?_;refine jA 10 y.o ?_;refine Δ ?_;clear I y;by_cases hwc:wc=0
  case neg=>
   have t1:(wc != 0)=true:=by simp[hwc]
   have cM:(worF (plO ⟨J,(Q:Int),R,S,A,some (α L O),C,U,P,V,c,d,f,nd,K,sy,some (α l 0),Y,Z,E,An,Au,H,n2,d1,d2,T,cu,ep,false⟩) ⟨oa,os,ox,op,oq,on,ot⟩).1=wc:=by rw[aI.o]
   go_upto_region 5 with fail
   have aH:Hid (ordF (plO ⟨J,(Q:Int),R,S,A,some (α L O),C,U,P,V,c,d,f,nd,K,sy,some (α l 0),Y,Z,E,An,Au,H,n2,d1,d2,T,cu,ep,false⟩) ⟨oa,os,ox,op,oq,on,ot⟩=((plO ⟨J,(Q:Int),R,S,A,some (α L O),C,U,P,V,c,d,f,nd,K,sy,some (α l 0),Y,Z,E,An,Au,H,n2,d1,d2,T,cu,ep,false⟩),(wc,0,[]))):=by have:=ord_lok (p:=(plO ⟨J,(Q:Int),R,S,A,some (α L O),C,U,P,V,c,d,f,nd,K,sy,some (α l 0),Y,Z,E,An,Au,H,n2,d1,d2,T,cu,ep,false⟩)) (o:=⟨oa,os,ox,op,oq,on,ot⟩) rfl (by rw[cM];exact hwc);rw[cM]at this;exact this
   go_wp2_with fail
   refine(refused_any wc _).mono ?_;rintro e wR ⟨rfl,am⟩;have ai:=κ (CrdB.below_step bA.o am);have aW:=κ (Mm_below M0.o ai.o);have Z2:=κ (Blk.below' Z1.o ai.o);have U1:Hid (Kp w wR g (some (α l 0))):=Kp_of_below (CrdB.below_step U0.o ai.o);clear am;obtain⟨z0,z1,z2,z3⟩:=q2b Z2.o;have F3:Blk (st2 wR gZ (ι wc) (ι 0)) gZ 74 (vI wc 0):=st2_blk Z2.o
   have aj:MadeDo base g ⟨J,(Q:Int),R,S,A,some (α L O),C,U,P,V,c,d,f,nd,K,sy,some (α l 0),Y,Z,E,An,Au,H,n2,d1,d2,T,cu,ep,false⟩ (plO ⟨J,(Q:Int),R,S,A,some (α L O),C,U,P,V,c,d,f,nd,K,sy,some (α l 0),Y,Z,E,An,Au,H,n2,d1,d2,T,cu,ep,false⟩) wc 0 [] w (.returned (.tuple #[.agg (vI wc 0),.slice none 0 0])) (st2 wR gZ (ι wc) (ι 0)):=by
    unfold st2;refine madeDo_no (q:=⟨J,(Q:Int),R,S,A,some (α L O),C,U,P,V,c,d,f,nd,K,sy,some (α l 0),Y,Z,E,An,Au,H,n2,d1,d2,T,cu,ep,false⟩) (Mm_setz (Mm_setz aW.o MZ.o Z2.o (by decide) 0 _) MZ.o (blk_st Z2.o 0 _) (by decide) 1 _) rfl rfl ?_ (fun z _ h=>Mz_same h);exact Kp_past (Kp_past U1.o (ar.o) 0 _) (ar.o) 1 _
   have HF:=κ aj;clear aj
   go_wp2_with fail
   obtain⟨e0,e1,_,_⟩:=q2b F3;clear F3;unfold st2 at e0 e1 HF;exact bodyPost_ret (v:= .tuple #[.agg #[ι wc,ι 0],.slice none 0 0]) (by simp[results,Tryz.results55,go_sem,e0,e1]) rfl (by rw[aH.o];exact HF.o)
  case pos=>
   have t1:(wc != 0)=false:=by simp[hwc]
   obtain⟨b3,cN,cO⟩:=lok_ok (ac:=K) (sy:=sy) (a:=oa) (s:=os) (p:=op) (q:=oq) (n:=on) (t:=ot) (by rw[show lokF K sy oa os op oq on ot=(wc,ww) from aI.o];simp[hwc]);rw[show lokF K sy oa os op oq on ot=(wc,ww) from aI.o]at cN cO;obtain⟨dW,cP⟩:=inR_of b3;obtain⟨aN,dz⟩: ∃k:Nat,oa=k:=⟨oa.toNat,by omega⟩;subst dz;have b4:Hid (¬(worF (plO ⟨J,(Q:Int),R,S,A,some (α L O),C,U,P,V,c,d,f,nd,K,sy,some (α l 0),Y,Z,E,An,Au,H,n2,d1,d2,T,cu,ep,false⟩) ⟨(aN:Int),os,ox,op,oq,on,ot⟩).1≠0):=by show ¬_;rw[aI.o];simp[hwc]
   have cQ:aN<P:=by rw[L2.o];omega
   subst hwc;have b6:shaF J K.length (aN:Int)=(aN:Int)%J:=by unfold shaF;rw[if_neg (by rw[b3];simp;omega)]
   obtain⟨j,bB⟩: ∃k:Nat,(aN:Int)%J=k:=⟨((aN:Int)%J).toNat,by have:=Int.emod_nonneg (aN:Int) (show J≠0 by omega);omega⟩;have dX:(j:Int)<J:=by rw[←bB];exact Int.emod_lt_of_pos _ (by omega)
   have dA:j<Y:=by have:=V7.o;omega
   have b7:Hid (shaP (plO ⟨J,(Q:Int),R,S,A,some (α L O),C,U,P,V,c,d,f,nd,K,sy,some (α l 0),Y,Z,E,An,Au,H,n2,d1,d2,T,cu,ep,false⟩) ⟨(aN:Int),os,ox,op,oq,on,ot⟩=j):=by
    show(shaF J K.length (aN:Int)).toNat=j;rw[b6,bB];rfl
   have b8:=shard_any J (Q:Int) R S A (some (α L O)) C c d f nd K sy (aN:Int) w1.drew (by exact⟨by omega,by omega⟩) (by rw[←L2.o];omega);rw[b6,bB,←L1.o,←L2.o,←L3.o]at b8;have dY:=κ cP;clear b6 bB b3 cP
   go_upto_region 6 with fail
   let b9:World→Prop:=fun F=>F.cell? (α g 0)=some (ι J)∧F.cell? (α g 1)=some (ι (Q:Int))∧F.cell? (α g 2)=some (ι R)∧F.cell? (α g 3)=some (ι S)∧F.cell? (α g 4)=some (.slice A U c)∧F.cell? (α g 5)=some (.slice (some (α L O)) P d)∧F.cell? (α g 6)=some (.slice C V f)∧F.cell? (α gO 0)=some (ι (aN:Int))
   have I:Hid (b9 (w1.drew)):=⟨M1.o.blk.cell 0,M1.o.blk.cell 1,M1.o.blk.cell 2,M1.o.blk.cell 3,M1.o.blk.cell 4,M1.o.blk.cell 5,M1.o.blk.cell 6,O2.o.cell 0⟩;refine Ω b9 [] ?_;refine jA 0 I.o ?_;refine jA 1 I.o ?_;refine jA 2 I.o ?_;refine jB 3 I.o ?_;refine jA 4 I.o ?_;refine jB 5 I.o ?_;refine jN 6 fun K' hK=>?_
   go_simp;refine b8.mono ?_;rintro e w2 ⟨rfl,cR⟩;have bC:=κ (CrdB.below_step bA.o (CrdB.below_step (Below.drew ψ) cR));have M2:=κ (Mm_below M0.o bC.o);have O3:=κ (Blk.below' O1.o bC.o);have y:Hid (b9 w2):=⟨M2.o.blk.cell 0,M2.o.blk.cell 1,M2.o.blk.cell 2,M2.o.blk.cell 3,M2.o.blk.cell 4,M2.o.blk.cell 5,M2.o.blk.cell 6,O3.o.cell 0⟩;clear cR b8 M1 O2
   go_wp2_with fail
   refine hK.out _ _ y.o ?_;clear hK K';refine jP ?_;refine jA 7 y.o ?_;refine Δ ?_;clear I y;have G:Hid (j<E.length):=by show _<_;rw[←L4.o];exact dA
   have aX:=own_room M2.o.row;have c0:=aX.2.2.2.2.2 (j*4) _ (by have:=bxs_get E j 0 G.o (by decide);exact this);have c1:=aX.2.2.2.2.2 (j*4+1) _ (by have:=bxs_get E j 1 G.o (by decide);exact this);have c2:=aX.2.2.2.2.2 (j*4+2) _ (by have:=bxs_get E j 2 G.o (by decide);exact this);have c3:=aX.2.2.2.2.2 (j*4+3) _ (by have:=bxs_get E j 3 G.o (by decide);exact this);clear aX;have aM:=κ (M0.o.bm j G.o);have VB:=κ (V9.o j G.o)
   have bD:Hid (gB (plO ⟨J,(Q:Int),R,S,A,some (α L O),C,U,P,V,c,d,f,nd,K,sy,some (α l 0),Y,Z,E,An,Au,H,n2,d1,d2,T,cu,ep,false⟩).bs j=(gX E j).b):=by
    show(E.map Bx.b).getD j bk0=_;have h1:=G.o;simp[gX,h1]
   obtain⟨X,hX⟩:=ν (gX E j);rw[←hX]at bD;simp only at aM VB;rw[←hX]at c0 c1 c2 c3 aM VB;have HX:=κ hX;clear hX;obtain⟨XA,XC,xc,xd,cS,xb⟩:=X;obtain⟨aY,cc⟩:=ν xb.sh;obtain⟨aZ,cd⟩:=ν xb.ca;obtain⟨a0,ce⟩:=ν xb.rows.length;obtain⟨bE,cf⟩:=ν xb.op.length;simp only[bxV,List.getElem?_cons_zero,List.getElem?_cons_succ]at c0 c1 c2 c3;have ag:Hid (aY=xb.sh∧aZ=xb.ca):=⟨cc,cd⟩;have au:=κ ce;have ay:=κ cf;simp only at VB aM bD;have cT:=κ (VB.o.1.few (by omega));rw[←cc]at c0;rw[←cd]at c1;rw[←ce]at c2;rw[←cf]at c3;clear cc cd ce cf;have bF:=Bki.look_any J (Q:Int) R S A (some (α L O)) C U P V c d f XA XC a0 bE xc xd cS xb ⟨(aN:Int),os,ox,op,oq,on,ot⟩ w2.drew aY aZ ag au ay (κ (aM.o.below (Below.drew bC.o))) cT;rw[show odA ⟨(aN:Int),os,ox,op,oq,on,ot⟩= .agg #[.int .i64 (aN:Int),.int .i64 os,.bool ox,.int .i64 op,.int .i64 oq,.int .i64 on,.int .i64 ot] from rfl]at bF;obtain⟨lc,az⟩:=ν (lookF R S xb ⟨(aN:Int),os,ox,op,oq,on,ot⟩);rw[←az]at bF
   have cg:Hid (lookF ((plO ⟨J,(Q:Int),R,S,A,some (α L O),C,U,P,V,c,d,f,nd,K,sy,some (α l 0),Y,Z,E,An,Au,H,n2,d1,d2,T,cu,ep,false⟩)).ra ((plO ⟨J,(Q:Int),R,S,A,some (α L O),C,U,P,V,c,d,f,nd,K,sy,some (α l 0),Y,Z,E,An,Au,H,n2,d1,d2,T,cu,ep,false⟩)).ta (gB ((plO ⟨J,(Q:Int),R,S,A,some (α L O),C,U,P,V,c,d,f,nd,K,sy,some (α l 0),Y,Z,E,An,Au,H,n2,d1,d2,T,cu,ep,false⟩)).bs (shaP (plO ⟨J,(Q:Int),R,S,A,some (α L O),C,U,P,V,c,d,f,nd,K,sy,some (α l 0),Y,Z,E,An,Au,H,n2,d1,d2,T,cu,ep,false⟩) ⟨(aN:Int),os,ox,op,oq,on,ot⟩)) ⟨(aN:Int),os,ox,op,oq,on,ot⟩=lc):=by
    show _=_;rw[b7.o,bD.o];exact az.symm
   clear az;have dZ:decide ((j:Int)<(Y:Int))=true:=by simp;omega
   go_upto_region 7 with fail
   let ch:World→Prop:=fun F=>F.cell? (α g 0)=some (ι J)∧F.cell? (α g 1)=some (ι (Q:Int))∧F.cell? (α g 2)=some (ι R)∧F.cell? (α g 3)=some (ι S)∧F.cell? (α g 4)=some (.slice A U c)∧F.cell? (α g 5)=some (.slice (some (α L O)) P d)∧F.cell? (α g 6)=some (.slice C V f)∧F.cell? (α g 7)=some (.slice (some (α l 0)) Y Z)∧F.cell? (α l (j*4))=some (ι aY)∧F.cell? (α l (j*4+1))=some (ι aZ)∧F.cell? (α l (j*4+2))=some (.slice XA a0 xc)∧F.cell? (α l (j*4+3))=some (.slice XC bE xd)∧F.cell? (α gO 0)=some (ι (aN:Int))∧F.cell? (α gO 1)=some (ι os)∧F.cell? (α gO 2)=some (.bool ox)∧F.cell? (α gO 3)=some (ι op)∧F.cell? (α gO 4)=some (ι oq)∧F.cell? (α gO 5)=some (ι on)∧F.cell? (α gO 6)=some (ι ot)
   have I:Hid (ch (w2.drew)):=⟨M2.o.blk.cell 0,M2.o.blk.cell 1,M2.o.blk.cell 2,M2.o.blk.cell 3,M2.o.blk.cell 4,M2.o.blk.cell 5,M2.o.blk.cell 6,M2.o.blk.cell 7,c0,c1,c2,c3,O3.o.cell 0,O3.o.cell 1,O3.o.cell 2,O3.o.cell 3,O3.o.cell 4,O3.o.cell 5,O3.o.cell 6⟩;refine Ω ch [] ?_;refine jA 0 I.o ?_;refine jA 1 I.o ?_;refine jA 2 I.o ?_;refine jB 3 I.o ?_;refine jA 4 I.o ?_;refine jA 5 I.o ?_;refine jA 6 I.o ?_;refine jB 7 I.o ?_;refine jA 8 I.o ?_;refine jA 9 I.o ?_;refine jB 10 I.o ?_;refine jB 11 I.o ?_;refine jN 12 fun K' hK=>?_
   go_simp;refine bF.mono ?_;rintro e w3 ⟨rfl,cU⟩;have an:=κ (CrdB.below_step bC.o (CrdB.below_step (Below.drew ψ) cU));have M3:=κ (Mm_below M0.o an.o);have O4:=κ (Blk.below' O1.o an.o);have a1:=own_room M3.o.row;have a2:=a1.2.2.2.2.2 (j*4) _ (by have:=bxs_get E j 0 G.o (by decide);rw[←HX.o]at this;exact this);have a3:=a1.2.2.2.2.2 (j*4+1) _ (by have:=bxs_get E j 1 G.o (by decide);rw[←HX.o]at this;exact this);have a4:=a1.2.2.2.2.2 (j*4+2) _ (by have:=bxs_get E j 2 G.o (by decide);rw[←HX.o]at this;exact this);have a5:=a1.2.2.2.2.2 (j*4+3) _ (by have:=bxs_get E j 3 G.o (by decide);rw[←HX.o]at this;exact this);simp only[bxV,List.getElem?_cons_zero,List.getElem?_cons_succ]at a2 a3 a4 a5;rw[←ag.o.1]at a2;rw[←ag.o.2]at a3;rw[←au.o]at a4;rw[←ay.o]at a5;clear a1;have y:Hid (ch w3):=⟨M3.o.blk.cell 0,M3.o.blk.cell 1,M3.o.blk.cell 2,M3.o.blk.cell 3,M3.o.blk.cell 4,M3.o.blk.cell 5,M3.o.blk.cell 6,M3.o.blk.cell 7,a2,a3,a4,a5,O4.o.cell 0,O4.o.cell 1,O4.o.cell 2,O4.o.cell 3,O4.o.cell 4,O4.o.cell 5,O4.o.cell 6⟩;clear cU bF M2 O3
   go_wp2_with fail
   refine hK.out _ _ y.o ?_;clear hK K';refine jP ?_;refine jA 13 y.o ?_;refine Δ ?_;clear I y c0 c1 c2 c3;by_cases az:lc=0
   case neg=>
    have t1:(lc != 0)=true:=by simp[az]
    go_upto_region 9 with fail
    clear a2 a3 a4 a5;have aH:Hid (ordF (plO ⟨J,(Q:Int),R,S,A,some (α L O),C,U,P,V,c,d,f,nd,K,sy,some (α l 0),Y,Z,E,An,Au,H,n2,d1,d2,T,cu,ep,false⟩) ⟨(aN:Int),os,ox,op,oq,on,ot⟩=((plO ⟨J,(Q:Int),R,S,A,some (α L O),C,U,P,V,c,d,f,nd,K,sy,some (α l 0),Y,Z,E,An,Au,H,n2,d1,d2,T,cu,ep,false⟩),(lc,0,[]))):=by have:=ord_look (p:=(plO ⟨J,(Q:Int),R,S,A,some (α L O),C,U,P,V,c,d,f,nd,K,sy,some (α l 0),Y,Z,E,An,Au,H,n2,d1,d2,T,cu,ep,false⟩)) (o:=⟨(aN:Int),os,ox,op,oq,on,ot⟩) rfl b4.o (by rw[cg.o];exact az);rw[cg.o]at this;exact this
    go_wp2_with fail
    refine(refused_any lc _).mono ?_;rintro e wR ⟨rfl,am⟩;have ai:=κ (CrdB.below_step an.o am);have aW:=κ (Mm_below M0.o ai.o);have Z2:=κ (Blk.below' Z1.o ai.o);have U1:Hid (Kp w wR g (some (α l 0))):=Kp_of_below (CrdB.below_step U0.o ai.o);clear am;obtain⟨z0,z1,z2,z3⟩:=q2b Z2.o;have F3:Blk (st2 wR gZ (ι lc) (ι 0)) gZ 74 (vI lc 0):=st2_blk Z2.o
    have aj:MadeDo base g ⟨J,(Q:Int),R,S,A,some (α L O),C,U,P,V,c,d,f,nd,K,sy,some (α l 0),Y,Z,E,An,Au,H,n2,d1,d2,T,cu,ep,false⟩ (plO ⟨J,(Q:Int),R,S,A,some (α L O),C,U,P,V,c,d,f,nd,K,sy,some (α l 0),Y,Z,E,An,Au,H,n2,d1,d2,T,cu,ep,false⟩) lc 0 [] w (.returned (.tuple #[.agg (vI lc 0),.slice none 0 0])) (st2 wR gZ (ι lc) (ι 0)):=by
     unfold st2;refine madeDo_no (q:=⟨J,(Q:Int),R,S,A,some (α L O),C,U,P,V,c,d,f,nd,K,sy,some (α l 0),Y,Z,E,An,Au,H,n2,d1,d2,T,cu,ep,false⟩) (Mm_setz (Mm_setz aW.o MZ.o Z2.o (by decide) 0 _) MZ.o (blk_st Z2.o 0 _) (by decide) 1 _) rfl rfl ?_ (fun z _ h=>Mz_same h);exact Kp_past (Kp_past U1.o (ar.o) 0 _) (ar.o) 1 _
    have HF:=κ aj;clear aj
    go_wp2_with fail
    obtain⟨e0,e1,_,_⟩:=q2b F3;clear F3;unfold st2 at e0 e1 HF;exact bodyPost_ret (v:= .tuple #[.agg #[ι lc,ι 0],.slice none 0 0]) (by simp[results,Tryz.results55,go_sem,e0,e1]) rfl (by rw[aH.o];exact HF.o)
   case pos=>
    have t1:(lc != 0)=false:=by simp[az]
    go_upto_region 10 with fail
    clear a2 a3 a4 a5;have cV:Hid (¬lookF ((plO ⟨J,(Q:Int),R,S,A,some (α L O),C,U,P,V,c,d,f,nd,K,sy,some (α l 0),Y,Z,E,An,Au,H,n2,d1,d2,T,cu,ep,false⟩)).ra ((plO ⟨J,(Q:Int),R,S,A,some (α L O),C,U,P,V,c,d,f,nd,K,sy,some (α l 0),Y,Z,E,An,Au,H,n2,d1,d2,T,cu,ep,false⟩)).ta (gB ((plO ⟨J,(Q:Int),R,S,A,some (α L O),C,U,P,V,c,d,f,nd,K,sy,some (α l 0),Y,Z,E,An,Au,H,n2,d1,d2,T,cu,ep,false⟩)).bs (shaP (plO ⟨J,(Q:Int),R,S,A,some (α L O),C,U,P,V,c,d,f,nd,K,sy,some (α l 0),Y,Z,E,An,Au,H,n2,d1,d2,T,cu,ep,false⟩) ⟨(aN:Int),os,ox,op,oq,on,ot⟩)) ⟨(aN:Int),os,ox,op,oq,on,ot⟩≠0):=by show ¬_;rw[cg.o];simp[az]
    clear az;obtain⟨r1,r2,ci⟩: ∃a b,Cpl.resF T cu (gI K aN) ww=(a,b):=⟨_,_,rfl⟩;obtain⟨UU,cj⟩:=ν (Cpl.resU T cu (gI K aN) ww);obtain⟨nU,ck⟩:=ν UU.length;have GS:=du.o;have GS:=GS;have cm:=V5.o aN (by rw[←L2.o];exact cQ);have RS:=fun W hn hu=>reserve_fresh An Au d1 d2 T cu (gI K aN) ww W hn hu GS cm cN cO
    unfold MadeResF at RS;rw[ci,←cj,←L5.o,←L6.o]at RS;simp only[←ck]at RS;have dB:=κ ck;have cW:=(dx.o aN (by have:=L2.o;omega));have d0:=κ cI;have aO:Hid (∀W,Below w.heap.size w W→W.cell? (α L (O+aN))=some (ι (gI K aN))):=fun W hb=>(hb.cell (p:=(α L (O+aN))) cI).trans cW
    have cX:=κ ci;have dC:=κ cj;obtain⟨av,cY⟩:=ν (gI K aN);rw[←cY]at RS aO cm;clear cY;have dD:=κ (CrdB.below_step U0.o an.o);have d3:decide ((aN:Int)<(P:Int))=true:=by simp;omega
    clear ci cj ck cW cm GS
    go_cut [10,6] (fun sS sC wx=> ∃(gS:Nat) (A5 A6:Option Addr) (d5 d6:Nat),sS= .pointer (some (α gS 0))∧sC= ι r1∧Hid (Blk wx gS 142 (vS A5 H d5 A6 nU d6))∧Hid (Nds wx wx.heap.size A5 T)∧Hid (Ris wx wx.heap.size A6 UU)∧Hid (∀a,A5=some a→w3.heap.size≤a.block)∧Hid (∀a,A6=some a→w3.heap.size≤a.block)∧Hid (Below w0.heap.size w0 wx)∧Hid (w3.heap.size≤gS))
    case first=>
     let aP:World→Prop:=fun F=>F.cell? (α g 8)=some (.slice An H d1)∧F.cell? (α g 9)=some (.slice Au n2 d2)∧F.cell? (α g 5)=some (.slice (some (α L O)) P d)∧F.cell? (α gO 0)=some (ι (aN:Int))∧F.cell? (α L (O+aN))=some (ι av)
     have I:Hid (aP (w3.drew)):=⟨M3.o.blk.cell 8,M3.o.blk.cell 9,M3.o.blk.cell 5,O4.o.cell 0,aO.o _ (Below.drew dD.o)⟩;have bG:Hid (Below w0.heap.size w0 (w3.drew.alloc (.cells (vS none 0 0 none 0 0) 142))):=(Below.drew an.o).alloc an.o.size _;have Ma:=κ (Mm_below M0.o bG.o);have Oa:=κ (Blk.below' O1.o bG.o);have a6:Hid (aP (w3.drew.alloc (.cells (vS none 0 0 none 0 0) 142))):=⟨Ma.o.blk.cell 8,Ma.o.blk.cell 9,Ma.o.blk.cell 5,Oa.o.cell 0,aO.o _ (CrdB.below_step U0.o bG.o)⟩;have Sa:Hid (Blk (w3.drew.alloc (.cells (vS none 0 0 none 0 0) 142)) w3.heap.size 142 (vS none 0 0 none 0 0)):=Blk.fresh w3.drew _ _;refine Ω aP [20] ?_;refine jA 0 I.o ?_;refine jA 1 I.o ?_;refine jA 2 I.o ?_;refine jB 3 I.o ?_;refine jA 4 I.o ?_;refine jA 5 I.o ?_;refine jA 6 I.o ?_;refine jA 7 I.o ?_;refine jB 8 I.o ?_;refine jA 9 I.o ?_;refine jB 10 I.o ?_;refine jA 11 I.o ?_;refine jB 12 I.o ?_;refine jA 13 I.o ?_;refine wpL_two (m:=14) (n:=19) (by kernel_rfl) rfl rfl ?_ ?_
     ·intro K' hK;go_simp;refine(RS _ (κ (Mm_below M0.o (Below.drew an.o)).cn) (κ (Mm_below M0.o (Below.drew an.o)).cr)).mono ?_;rintro e w4 ⟨A5,d5,A6,d6,rfl,a7,a8,aJ,a9,ba⟩;have ao:=κ (CrdB.below_step (Below.drew an.o) aJ);have M4:=κ (Mm_below M0.o ao.o);have O5:=κ (Blk.below' O1.o ao.o);have y:Hid (aP w4):=⟨M4.o.blk.cell 8,M4.o.blk.cell 9,M4.o.blk.cell 5,O5.o.cell 0,aO.o _ (CrdB.below_step U0.o ao.o)⟩;have dE:Hid (w3.heap.size≤w4.heap.size):=aJ.size;have N5:=κ a7;have R5:=κ a8;have F5:Hid (∀a,A5=some a→w3.heap.size≤a.block):=a9;have F6:Hid (∀a,A6=some a→w3.heap.size≤a.block):=ba;clear a7 a8 aJ a9 ba
      go_wp2_with fail
      refine hK.out _ _ y.o ?_;clear hK K';refine jP ?_;refine jA 15 y.o ?_;refine jA 16 y.o ?_;refine jA 17 y.o ?_;refine jA 18 y.o ?_;have co:=κ (ao.o.alloc ao.o.size (.cells (vS none 0 0 none 0 0) 142));have Mb:=κ (Mm_below M0.o co.o);have Ob:=κ (Blk.below' O1.o co.o);have bH:Hid (aP (w4.alloc (.cells (vS none 0 0 none 0 0) 142))):=⟨Mb.o.blk.cell 8,Mb.o.blk.cell 9,Mb.o.blk.cell 5,Ob.o.cell 0,aO.o _ (CrdB.below_step U0.o co.o)⟩;refine jN 19 fun K' hK=>?_
      go_simp;refine hK.out _ _ bH.o ?_;clear hK K';refine jP ?_;refine jV 20 fun K' hK=>?_
      go_simp;refine hK.out _ _ ?_;clear hK K';refine jP ?_;refine jZ 21 ?_;refine jZ 22 ?_;refine Δ ?_;have hT:=κ (Blk.fresh w4 142 (vS A5 H d5 A6 nU d6));have hU:=β w4 (.cells (vS A5 H d5 A6 nU d6) 142)
      go_wp2_with fail
      go_meet;exact⟨w4.heap.size,A5,A6,d5,d6,rfl,rfl,hT,Rd.below' N5.o hU hU.size,Rd.below' R5.o hU hU.size,F5,F6,CrdB.below_step ao.o hU,dE⟩
     ·intro K' hK;go_simp;refine hK.out _ _ a6.o ?_;clear hK K';refine jP ?_;refine jN 14 fun K' hK=>?_
      go_simp;refine(RS _ (κ Ma.o.cn) (κ Ma.o.cr)).mono ?_;rintro e w4 ⟨A5,d5,A6,d6,rfl,a7,a8,aJ,a9,ba⟩;have ao:=κ (CrdB.below_step bG.o aJ);have M4:=κ (Mm_below M0.o ao.o);have O5:=κ (Blk.below' O1.o ao.o);have y:Hid (aP w4):=⟨M4.o.blk.cell 8,M4.o.blk.cell 9,M4.o.blk.cell 5,O5.o.cell 0,aO.o _ (CrdB.below_step U0.o ao.o)⟩;have S4:=κ (Blk.below' Sa.o aJ);have N5:=κ a7;have R5:=κ a8;have G5:Hid (∀a,A5=some a→w3.heap.size+1≤a.block):=fun a ha=>by have h8:=a9 a ha;have h9:(w3.drew.alloc (.cells (vS none 0 0 none 0 0) 142)).heap.size=w3.heap.size+1:=World.size_alloc _ _;omega
      have G6:Hid (∀a,A6=some a→w3.heap.size+1≤a.block):=fun a ha=>by have h8:=ba a ha;have h9:(w3.drew.alloc (.cells (vS none 0 0 none 0 0) 142)).heap.size=w3.heap.size+1:=World.size_alloc _ _;omega
      clear a7 a8 aJ a9 ba;obtain⟨p0,p1,p2,p3⟩:=q2b S4.o;have p4:=χ ((blk_st S4.o 0 (.slice A5 H d5)).cell 1);have p5:=(blk_st S4.o 0 (.slice A5 H d5)).thaw 1
      go_wp2_with fail
      refine hK.out _ _ y.o ?_;clear hK K';refine jP ?_;refine jA 15 y.o ?_;refine jA 16 y.o ?_;refine jA 17 y.o ?_;refine jA 18 y.o ?_;refine jV 20 fun K' hK=>?_
      go_simp;refine hK.out _ _ ?_;clear hK K';refine jP ?_;refine jZ 21 ?_;refine jZ 22 ?_;refine Δ ?_;have hT:Hid (Blk (st2 w4 w3.heap.size (.slice A5 H d5) (.slice A6 nU d6)) w3.heap.size 142 (vS A5 H d5 A6 nU d6)):=st2_blk S4.o;have hN:Hid (Nds (st2 w4 w3.heap.size (.slice A5 H d5) (.slice A6 nU d6)) (st2 w4 w3.heap.size (.slice A5 H d5) (.slice A6 nU d6)).heap.size A5 T):=Rd.keep' (Rd.keep' N5.o (Nat.lt_succ_self _) (fun a ha=>by have:=G5.o a ha;omega) _) (Nat.lt_succ_self _) (fun a ha=>by have:=G5.o a ha;omega) _;have hR:Hid (Ris (st2 w4 w3.heap.size (.slice A5 H d5) (.slice A6 nU d6)) (st2 w4 w3.heap.size (.slice A5 H d5) (.slice A6 nU d6)).heap.size A6 UU):=Rd.keep' (Rd.keep' R5.o (Nat.lt_succ_self _) (fun a ha=>by have:=G6.o a ha;omega) _) (Nat.lt_succ_self _) (fun a ha=>by have:=G6.o a ha;omega) _;have hB:Hid (Below w0.heap.size w0 (st2 w4 w3.heap.size (.slice A5 H d5) (.slice A6 nU d6))):=st2_below ao.o an.o.size;have F5:Hid (∀a,A5=some a→w3.heap.size≤a.block):=fun a ha=>by have:=G5.o a ha;omega
      have F6:Hid (∀a,A6=some a→w3.heap.size≤a.block):=fun a ha=>by have:=G6.o a ha;omega
      clear p0 p1 p2 p3 p4 p5
      go_wp2_with fail
      go_meet;exact⟨w3.heap.size,A5,A6,d5,d6,rfl,rfl,hT,hN,hR,F5,F6,hB,τ⟩
    case rest=>
     obtain⟨gS,A5,A6,d5,d6,rfl,rfl,S6,N6,R6,F5,F6,aQ,cZ⟩:=hcut
     rename World=>w6
     have dF:Hid (Below w3.heap.size w3 w6→True):=fun _=>trivial
     clear dF;by_cases hr1:r1=0
     case neg=>
      have t1:(r1 != 0)=true:=by simp[hr1]
      go_upto_region 12 with fail
      have aH:=κ (ord_res' (p:=(plO ⟨J,(Q:Int),R,S,A,some (α L O),C,U,P,V,c,d,f,nd,K,sy,some (α l 0),Y,Z,E,An,Au,H,n2,d1,d2,T,cu,ep,false⟩)) (o:=⟨(aN:Int),os,ox,op,oq,on,ot⟩) rfl b4.o cV.o (by rw[show(worF (plO ⟨J,(Q:Int),R,S,A,some (α L O),C,U,P,V,c,d,f,nd,K,sy,some (α l 0),Y,Z,E,An,Au,H,n2,d1,d2,T,cu,ep,false⟩) ⟨(aN:Int),os,ox,op,oq,on,ot⟩).2=ww from by rw[aI.o]];show(Cpl.resF T cu (gI K aN) ww).1=r1;rw[cX.o]) hr1)
      go_wp2_with fail
      refine(refused_any r1 _).mono ?_;rintro e wR ⟨rfl,am⟩;have ai:=κ (CrdB.below_step aQ.o am);have aW:=κ (Mm_below M0.o ai.o);have Z2:=κ (Blk.below' Z1.o ai.o);have U1:Hid (Kp w wR g (some (α l 0))):=Kp_of_below (CrdB.below_step U0.o ai.o);clear am;obtain⟨z0,z1,z2,z3⟩:=q2b Z2.o;have F3:Blk (st2 wR gZ (ι r1) (ι 0)) gZ 74 (vI r1 0):=st2_blk Z2.o
      have aj:MadeDo base g ⟨J,(Q:Int),R,S,A,some (α L O),C,U,P,V,c,d,f,nd,K,sy,some (α l 0),Y,Z,E,An,Au,H,n2,d1,d2,T,cu,ep,false⟩ (plO ⟨J,(Q:Int),R,S,A,some (α L O),C,U,P,V,c,d,f,nd,K,sy,some (α l 0),Y,Z,E,An,Au,H,n2,d1,d2,T,cu,ep,false⟩) r1 0 [] w (.returned (.tuple #[.agg (vI r1 0),.slice none 0 0])) (st2 wR gZ (ι r1) (ι 0)):=by
       unfold st2;refine madeDo_no (q:=⟨J,(Q:Int),R,S,A,some (α L O),C,U,P,V,c,d,f,nd,K,sy,some (α l 0),Y,Z,E,An,Au,H,n2,d1,d2,T,cu,ep,false⟩) (Mm_setz (Mm_setz aW.o MZ.o Z2.o (by decide) 0 _) MZ.o (blk_st Z2.o 0 _) (by decide) 1 _) rfl rfl ?_ (fun z _ h=>Mz_same h);exact Kp_past (Kp_past U1.o (ar.o) 0 _) (ar.o) 1 _
      have HF:=κ aj;clear aj
      go_wp2_with fail
      obtain⟨e0,e1,_,_⟩:=q2b F3;clear F3;unfold st2 at e0 e1 HF;exact bodyPost_ret (v:= .tuple #[.agg #[ι r1,ι 0],.slice none 0 0]) (by simp[results,Tryz.results55,go_sem,e0,e1]) rfl (by rw[aH.o];exact HF.o)
     case pos=>
      have t1:(r1 != 0)=false:=by simp[hr1]
      have M6:=κ (Mm_below M0.o aQ.o);have O6:=κ (Blk.below' O1.o aQ.o);have dG:=κ (ord_new (p:=(plO ⟨J,(Q:Int),R,S,A,some (α L O),C,U,P,V,c,d,f,nd,K,sy,some (α l 0),Y,Z,E,An,Au,H,n2,d1,d2,T,cu,ep,false⟩)) (o:=⟨(aN:Int),os,ox,op,oq,on,ot⟩) rfl b4.o cV.o (by rw[show(worF (plO ⟨J,(Q:Int),R,S,A,some (α L O),C,U,P,V,c,d,f,nd,K,sy,some (α l 0),Y,Z,E,An,Au,H,n2,d1,d2,T,cu,ep,false⟩) ⟨(aN:Int),os,ox,op,oq,on,ot⟩).2=ww from by rw[aI.o]];show ¬(Cpl.resF T cu (gI K aN) ww).1≠0;rw[cX.o];simp[hr1]));clear hr1;obtain⟨NB,cp⟩:=ν (Bks.addF J (Q:Int) xb ⟨(aN:Int),os,ox,op,oq,on,ot⟩ ep);obtain⟨ah,cq⟩:=ν (xb.sh+J*xb.ca);obtain⟨aa,cs⟩:=ν NB.sh;obtain⟨ab,ct⟩:=ν NB.ca;obtain⟨ad,cv⟩:=ν NB.rows.length;obtain⟨af,cw⟩:=ν NB.op.length;have dH:aN<a0:=by rw[au.o,VB.o.2];exact cQ
      have c4:=v6;have AX:=fun W dI=>add_any J R S Q A (some (α L O)) C U P V c d f aY aZ XA XC a0 bE xc xd cS xb aN os op oq on ot ox ep W ag au ay dI cT c4.1 c4.2 dw dH
      unfold MadeB2 at AX;rw[←cp,←cq]at AX
      have c5: ∀A7 C7 c7 d7,bkA A7 C7 c7 d7 NB= .agg (vB aa ab A7 ad c7 C7 af d7):=by
       intro A7 C7 c7 d7;unfold bkA;rw[cs,ct,cv,cw]
      simp only[c5]at AX;have dJ:=κ cp;have dK:=κ cq;have bI:Hid (aa=NB.sh∧ab=NB.ca∧ad=NB.rows.length∧af=NB.op.length):=⟨cs,ct,cv,cw⟩;clear cp cq cs ct cv cw c5 RS
      go_upto_region 13 with fail
      go_cut [12,13] (fun sV sI wx=> ∃(gV:Nat) (A7 C7:Option Addr) (c7 d7:Nat) (ae:List Rc),sV= .pointer (some (α gV 0))∧sI= ι ah∧Hid (Blk wx gV 181 (vB aa ab A7 ad c7 C7 af d7))∧Hid (Bm wx A7 C7 ae NB)∧Hid (Fb w6.heap.size A7 C7 ae)∧Hid (Below w6.heap.size w6 wx)∧Hid (w6.heap.size≤gV))
      case first=>
       have bb:=κ (Below.drew aQ.o);have dL:=κ (Mm_below M0.o bb.o);have bc:=own_room dL.o.row;have bd:=bc.2.2.2.2.2 (j*4) _ (by have:=bxs_get E j 0 G.o (by decide);rw[←HX.o]at this;exact this);have be:=bc.2.2.2.2.2 (j*4+1) _ (by have:=bxs_get E j 1 G.o (by decide);rw[←HX.o]at this;exact this);have bf:=bc.2.2.2.2.2 (j*4+2) _ (by have:=bxs_get E j 2 G.o (by decide);rw[←HX.o]at this;exact this);have bg:=bc.2.2.2.2.2 (j*4+3) _ (by have:=bxs_get E j 3 G.o (by decide);rw[←HX.o]at this;exact this);simp only[bxV,List.getElem?_cons_zero,List.getElem?_cons_succ]at bd be bf bg;rw[←ag.o.1]at bd;rw[←ag.o.2]at be;rw[←au.o]at bf;rw[←ay.o]at bg;clear bc;let aR:World→Prop:=fun F=>F.cell? (α g 0)=some (ι J)∧F.cell? (α g 1)=some (ι (Q:Int))∧F.cell? (α g 2)=some (ι R)∧F.cell? (α g 3)=some (ι S)∧F.cell? (α g 4)=some (.slice A U c)∧F.cell? (α g 5)=some (.slice (some (α L O)) P d)∧F.cell? (α g 6)=some (.slice C V f)∧F.cell? (α g 7)=some (.slice (some (α l 0)) Y Z)∧F.cell? (α l (j*4))=some (ι aY)∧F.cell? (α l (j*4+1))=some (ι aZ)∧F.cell? (α l (j*4+2))=some (.slice XA a0 xc)∧F.cell? (α l (j*4+3))=some (.slice XC bE xd)∧F.cell? (α gO 0)=some (ι (aN:Int))∧F.cell? (α gO 1)=some (ι os)∧F.cell? (α gO 2)=some (.bool ox)∧F.cell? (α gO 3)=some (ι op)∧F.cell? (α gO 4)=some (ι oq)∧F.cell? (α gO 5)=some (ι on)∧F.cell? (α gO 6)=some (ι ot)∧F.cell? (α g 10)=some (ι ep)
       have I:Hid (aR (w6.drew)):=⟨M6.o.blk.cell 0,M6.o.blk.cell 1,M6.o.blk.cell 2,M6.o.blk.cell 3,M6.o.blk.cell 4,M6.o.blk.cell 5,M6.o.blk.cell 6,M6.o.blk.cell 7,bd,be,bf,bg,O6.o.cell 0,O6.o.cell 1,O6.o.cell 2,O6.o.cell 3,O6.o.cell 4,O6.o.cell 5,O6.o.cell 6,M6.o.blk.cell 10⟩;have bJ:=κ (bb.o.alloc bb.o.size (.cells (vB 0 0 none 0 0 none 0 0) 181));have aw:=κ (Mm_below M0.o bJ.o);have aK:=κ (Blk.below' O1.o bJ.o);have bh:=own_room aw.o.row;have bi:=bh.2.2.2.2.2 (j*4) _ (by have:=bxs_get E j 0 G.o (by decide);rw[←HX.o]at this;exact this);have bj:=bh.2.2.2.2.2 (j*4+1) _ (by have:=bxs_get E j 1 G.o (by decide);rw[←HX.o]at this;exact this);have bk:=bh.2.2.2.2.2 (j*4+2) _ (by have:=bxs_get E j 2 G.o (by decide);rw[←HX.o]at this;exact this);have bl:=bh.2.2.2.2.2 (j*4+3) _ (by have:=bxs_get E j 3 G.o (by decide);rw[←HX.o]at this;exact this);simp only[bxV,List.getElem?_cons_zero,List.getElem?_cons_succ]at bi bj bk bl;rw[←ag.o.1]at bi;rw[←ag.o.2]at bj;rw[←au.o]at bk;rw[←ay.o]at bl;clear bh;have a6:Hid (aR (w6.drew.alloc (.cells (vB 0 0 none 0 0 none 0 0) 181))):=⟨aw.o.blk.cell 0,aw.o.blk.cell 1,aw.o.blk.cell 2,aw.o.blk.cell 3,aw.o.blk.cell 4,aw.o.blk.cell 5,aw.o.blk.cell 6,aw.o.blk.cell 7,bi,bj,bk,bl,aK.o.cell 0,aK.o.cell 1,aK.o.cell 2,aK.o.cell 3,aK.o.cell 4,aK.o.cell 5,aK.o.cell 6,aw.o.blk.cell 10⟩;have Sa:Hid (Blk (w6.drew.alloc (.cells (vB 0 0 none 0 0 none 0 0) 181)) w6.heap.size 181 (vB 0 0 none 0 0 none 0 0)):=Blk.fresh w6.drew _ _;refine Ω aR [21] ?_;refine jA 0 I.o ?_;refine jA 1 I.o ?_;refine jA 2 I.o ?_;refine jB 3 I.o ?_;refine jA 4 I.o ?_;refine jA 5 I.o ?_;refine jA 6 I.o ?_;refine jB 7 I.o ?_;refine jA 8 I.o ?_;refine jA 9 I.o ?_;refine jB 10 I.o ?_;refine jB 11 I.o ?_;refine jA 12 I.o ?_;refine jA 13 I.o ?_;refine jA 14 I.o ?_;refine jB 15 I.o ?_;refine wpL_two (m:=16) (n:=20) (by kernel_rfl) rfl rfl ?_ ?_
       ·intro K' hK;go_simp;refine(AX _ (κ (aM.o.below bb.o))).mono ?_;rintro e w7 ⟨A7,C7,c7,d7,ae,rfl,bn,bo,aF⟩;have ak:=κ (CrdB.below_step bb.o aF);have M7:=κ (Mm_below M0.o ak.o);have O7:=κ (Blk.below' O1.o ak.o);have ap:=own_room M7.o.row;have aA:=ap.2.2.2.2.2 (j*4) _ (by have:=bxs_get E j 0 G.o (by decide);rw[←HX.o]at this;exact this);have aB:=ap.2.2.2.2.2 (j*4+1) _ (by have:=bxs_get E j 1 G.o (by decide);rw[←HX.o]at this;exact this);have aC:=ap.2.2.2.2.2 (j*4+2) _ (by have:=bxs_get E j 2 G.o (by decide);rw[←HX.o]at this;exact this);have aD:=ap.2.2.2.2.2 (j*4+3) _ (by have:=bxs_get E j 3 G.o (by decide);rw[←HX.o]at this;exact this);simp only[bxV,List.getElem?_cons_zero,List.getElem?_cons_succ]at aA aB aC aD;rw[←ag.o.1]at aA;rw[←ag.o.2]at aB;rw[←au.o]at aC;rw[←ay.o]at aD;clear ap;have y:Hid (aR w7):=⟨M7.o.blk.cell 0,M7.o.blk.cell 1,M7.o.blk.cell 2,M7.o.blk.cell 3,M7.o.blk.cell 4,M7.o.blk.cell 5,M7.o.blk.cell 6,M7.o.blk.cell 7,aA,aB,aC,aD,O7.o.cell 0,O7.o.cell 1,O7.o.cell 2,O7.o.cell 3,O7.o.cell 4,O7.o.cell 5,O7.o.cell 6,M7.o.blk.cell 10⟩;have N7:=κ bn;have F7:Hid (Fb w6.heap.size A7 C7 ae):=bo;have aq:=κ (CrdB.below_step (Below.drew ψ) aF);clear bn bo aF
        go_wp2_with fail
        refine hK.out _ _ y.o ?_;clear hK K';refine jP ?_;refine jA 17 y.o ?_;refine jA 18 y.o ?_;refine jA 19 y.o ?_;have c6:=κ (ak.o.alloc ak.o.size (.cells (vB 0 0 none 0 0 none 0 0) 181));have My:=κ (Mm_below M0.o c6.o);have Oy:=κ (Blk.below' O1.o c6.o);have bp:=own_room My.o.row;have bK:=bp.2.2.2.2.2 (j*4) _ (by have:=bxs_get E j 0 G.o (by decide);rw[←HX.o]at this;exact this);have bL:=bp.2.2.2.2.2 (j*4+1) _ (by have:=bxs_get E j 1 G.o (by decide);rw[←HX.o]at this;exact this);have bM:=bp.2.2.2.2.2 (j*4+2) _ (by have:=bxs_get E j 2 G.o (by decide);rw[←HX.o]at this;exact this);have bN:=bp.2.2.2.2.2 (j*4+3) _ (by have:=bxs_get E j 3 G.o (by decide);rw[←HX.o]at this;exact this);simp only[bxV,List.getElem?_cons_zero,List.getElem?_cons_succ]at bK bL bM bN;rw[←ag.o.1]at bK;rw[←ag.o.2]at bL;rw[←au.o]at bM;rw[←ay.o]at bN;clear bp;have bH:Hid (aR (w7.alloc (.cells (vB 0 0 none 0 0 none 0 0) 181))):=⟨My.o.blk.cell 0,My.o.blk.cell 1,My.o.blk.cell 2,My.o.blk.cell 3,My.o.blk.cell 4,My.o.blk.cell 5,My.o.blk.cell 6,My.o.blk.cell 7,bK,bL,bM,bN,Oy.o.cell 0,Oy.o.cell 1,Oy.o.cell 2,Oy.o.cell 3,Oy.o.cell 4,Oy.o.cell 5,Oy.o.cell 6,My.o.blk.cell 10⟩;refine jN 20 fun K' hK=>?_
        go_simp;refine hK.out _ _ bH.o ?_;clear hK K';refine jP ?_;refine jV 21 fun K' hK=>?_
        go_simp;refine hK.out _ _ ?_;clear hK K';refine jP ?_;refine jZ 22 ?_;refine Δ ?_;have hT:=κ (Blk.fresh w7 181 (vB aa ab A7 ad c7 C7 af d7));have hU:=β w7 (.cells (vB aa ab A7 ad c7 C7 af d7) 181);clear bd be bf bg bi bj bk bl aA aB aC aD bK bL bM bN I a6 y bH
        go_wp2_with fail
        go_meet;exact⟨w7.heap.size,A7,C7,c7,d7,ae,rfl,rfl,hT,N7.o.below hU,F7,CrdB.below_step aq.o hU,aq.o.size⟩
       ·intro K' hK;go_simp;refine hK.out _ _ a6.o ?_;clear hK K';refine jP ?_;refine jN 16 fun K' hK=>?_
        go_simp;refine(AX _ (κ (aM.o.below bJ.o))).mono ?_;rintro e w7 ⟨A7,C7,c7,d7,ae,rfl,bn,bo,aF⟩;have ak:=κ (CrdB.below_step bJ.o aF);have M7:=κ (Mm_below M0.o ak.o);have O7:=κ (Blk.below' O1.o ak.o);have ap:=own_room M7.o.row;have aA:=ap.2.2.2.2.2 (j*4) _ (by have:=bxs_get E j 0 G.o (by decide);rw[←HX.o]at this;exact this);have aB:=ap.2.2.2.2.2 (j*4+1) _ (by have:=bxs_get E j 1 G.o (by decide);rw[←HX.o]at this;exact this);have aC:=ap.2.2.2.2.2 (j*4+2) _ (by have:=bxs_get E j 2 G.o (by decide);rw[←HX.o]at this;exact this);have aD:=ap.2.2.2.2.2 (j*4+3) _ (by have:=bxs_get E j 3 G.o (by decide);rw[←HX.o]at this;exact this);simp only[bxV,List.getElem?_cons_zero,List.getElem?_cons_succ]at aA aB aC aD;rw[←ag.o.1]at aA;rw[←ag.o.2]at aB;rw[←au.o]at aC;rw[←ay.o]at aD;clear ap;have y:Hid (aR w7):=⟨M7.o.blk.cell 0,M7.o.blk.cell 1,M7.o.blk.cell 2,M7.o.blk.cell 3,M7.o.blk.cell 4,M7.o.blk.cell 5,M7.o.blk.cell 6,M7.o.blk.cell 7,aA,aB,aC,aD,O7.o.cell 0,O7.o.cell 1,O7.o.cell 2,O7.o.cell 3,O7.o.cell 4,O7.o.cell 5,O7.o.cell 6,M7.o.blk.cell 10⟩;have S7:=κ (Blk.below' Sa.o aF);have N7:=κ bn;have G7:Hid (Fb (w6.heap.size+1) A7 C7 ae):=by have h9:(w6.drew.alloc (.cells (vB 0 0 none 0 0 none 0 0) 181)).heap.size=w6.heap.size+1:=World.size_alloc _ _;rw[←h9];exact bo
        have aq:Hid (Below w6.heap.size w6 w7):=CrdB.below_step ((Below.drew ψ).alloc τ _) aF;clear bn bo aF;obtain⟨p0,p1,p2,p3,g0,g1,g2,g3⟩:=z4_of S7.o;have c8:=S7.o;have bO:=ξ (blk_st c8 0 (ι aa));have bP:=ξ (blk_st bO 1 (ι ab));have cx:=ξ (blk_st bP 2 (.slice A7 ad c7));have c9:=bO.cell 1;have da:=bP.cell 2;have db:=cx.cell 3;have dM:=bO.thaw 1;have dN:=bP.thaw 2;have dO:=cx.thaw 3;simp only[List.getElem?_toArray,List.getElem?_cons_succ,List.getElem?_cons_zero]at c9 da db;clear c8 bO bP cx
        go_wp2_with fail
        refine hK.out _ _ y.o ?_;clear hK K';refine jP ?_;refine jA 17 y.o ?_;refine jA 18 y.o ?_;refine jA 19 y.o ?_;refine jV 21 fun K' hK=>?_
        go_simp;refine hK.out _ _ ?_;clear hK K';refine jP ?_;refine jZ 22 ?_;refine Δ ?_;have hT:Hid (Blk (st4 w7 w6.heap.size (ι aa) (ι ab) (.slice A7 ad c7) (.slice C7 af d7)) w6.heap.size 181 (vB aa ab A7 ad c7 C7 af d7)):=st4_blk S7.o;have hN:Hid (Bm (st4 w7 w6.heap.size (ι aa) (ι ab) (.slice A7 ad c7) (.slice C7 af d7)) A7 C7 ae NB):=Bm_st4 N7.o G7.o (Nat.lt_succ_self _) _ _ _ _;have hB:Hid (Below w6.heap.size w6 (st4 w7 w6.heap.size (ι aa) (ι ab) (.slice A7 ad c7) (.slice C7 af d7))):=st4_below aq.o τ;have F7:Hid (Fb w6.heap.size A7 C7 ae):=⟨fun a ha=>by have:=G7.o.1 a ha;omega,fun a ha=>by have:=G7.o.2.1 a ha;omega,fun i hi a ha=>by have:=G7.o.2.2 i hi a ha;omega⟩;clear p0 p1 p2 p3 g0 g1 g2 g3 c9 da db dM dN dO bd be bf bg bi bj bk bl aA aB aC aD I a6 y
        go_wp2_with fail
        go_meet;exact⟨w6.heap.size,A7,C7,c7,d7,ae,rfl,rfl,hT,hN,F7,hB,τ⟩
      case rest=>
       obtain⟨gV,A7,C7,c7,d7,ae,rfl,rfl,dP,N7,F7,aq,dc⟩:=hcut
       rename World=>w7
       have ak:=κ (Below.drew (CrdB.below_step aQ.o aq.o));have M7:=κ (Mm_below M0.o ak.o);have S7:=κ (Blk.below' S6.o (Below.drew aq.o));have aS:=κ (ε dP.o);have dd:Hid (Nds w7.drew w7.drew.heap.size A5 T):=Rd.below' N6.o (Below.drew aq.o) aq.o.size;have de:Hid (Ris w7.drew w7.drew.heap.size A6 UU):=Rd.below' R6.o (Below.drew aq.o) aq.o.size;have aE:=κ (Mm_lt M0.o);have df:=κ (ξ (aE.o.2 (α l 0) rfl));have aG:=κ an.o.size;have aT:=κ aQ.o.size;have bQ:Hid (gV≠l):=by show _≠_;have:=dc.o;have:=df.o;have:=aT.o;omega
       have bR:Hid (gS≠l):=by show _≠_;have:=cZ.o;have:=df.o;have:=aG.o;omega
       have d4:Hid (gV≠g):=by show _≠_;have:=dc.o;have:=aE.o.1;have:=aT.o;omega
       have d8:Hid (gS≠g):=by show _≠_;have:=cZ.o;have:=aE.o.1;have:=aG.o;omega
       have bq:=own_room M7.o.row;have bS:=bq.2.2.2.2.2 (j*4) _ (by have:=bxs_get E j 0 G.o (by decide);rw[←HX.o]at this;exact this);have br:=bq.2.2.2.2.2 (j*4+1) _ (by have:=bxs_get E j 1 G.o (by decide);rw[←HX.o]at this;exact this);have bt:=bq.2.2.2.2.2 (j*4+2) _ (by have:=bxs_get E j 2 G.o (by decide);rw[←HX.o]at this;exact this);have bu:=bq.2.2.2.2.2 (j*4+3) _ (by have:=bxs_get E j 3 G.o (by decide);rw[←HX.o]at this;exact this);simp only[bxV,List.getElem?_cons_zero,List.getElem?_cons_succ]at bS br bt bu;rw[←ag.o.1]at bS;rw[←ag.o.2]at br;rw[←au.o]at bt;rw[←ay.o]at bu;clear bq;have aU:=own_room M7.o.row;have dQ:=ξ aU.2.2.1;have dg:=(aU.2.2.2.2.1 (j*4) (show j*4<Z*4 by omega)).2;have cy:=(aU.2.2.2.2.1 (j*4+1) (show j*4+1<Z*4 by omega)).2;have cz:=(aU.2.2.2.2.1 (j*4+2) (show j*4+2<Z*4 by omega)).2;have cA:=(aU.2.2.2.2.1 (j*4+3) (show j*4+3<Z*4 by omega)).2;clear aU dQ;have dh:=ω (α l (j*4)) (ι aa) br;have di:=φ (α l (j*4)) (ι aa) cy;have dj:=ω (α l (j*4+1)) (ι ab) (ω (α l (j*4)) (ι aa) bt);have dk:=φ (α l (j*4+1)) (ι ab) (φ (α l (j*4)) (ι aa) cz);have dl:=ω (α l (j*4+2)) (.slice A7 ad c7) (ω (α l (j*4+1)) (ι ab) (ω (α l (j*4)) (ι aa) bu));have dm:=φ (α l (j*4+2)) (.slice A7 ad c7) (φ (α l (j*4+1)) (ι ab) (φ (α l (j*4)) (ι aa) cA));let cB:World→Prop:=fun F=>F.cell? (α g 7)=some (.slice (some (α l 0)) Y Z)∧F.cell? (α gV 0)=some (ι aa)∧F.cell? (α gV 1)=some (ι ab)∧F.cell? (α gV 2)=some (.slice A7 ad c7)∧F.cell? (α gV 3)=some (.slice C7 af d7)∧F.cell? (α gS 0)=some (.slice A5 H d5)∧F.cell? (α gS 1)=some (.slice A6 nU d6)
       have I:Hid (cB (w7.drew)):=⟨M7.o.blk.cell 7,aS.o.cell 0,aS.o.cell 1,aS.o.cell 2,aS.o.cell 3,S7.o.cell 0,S7.o.cell 1⟩
       have M9:Hid (Mm base ((((w7.drew.setCell (α l (j*4)) (ι aa)).setCell (α l (j*4+1)) (ι ab)).setCell (α l (j*4+2)) (.slice A7 ad c7)).setCell (α l (j*4+3)) (.slice C7 af d7)) g ⟨J,(Q:Int),R,S,A,some (α L O),C,U,P,V,c,d,f,nd,K,sy,some (α l 0),Y,Z,E.set j ⟨A7,C7,c7,d7,ae,NB⟩,An,Au,H,n2,d1,d2,T,cu,ep,false⟩):=by
        have h9:=Mm_book M7.o rfl (i:=j) G.o (x:=⟨A7,C7,c7,d7,ae,NB⟩) (show Bm w7.drew A7 C7 ae NB from⟨N7.o.r,N7.o.e,N7.o.n,N7.o.o⟩) (FarX_new (base:=w6.heap.size) (by have:=aE.o.1;have:=aT.o;omega) (fun b hb=>by have:=aE.o.2 b hb;have:=aT.o;omega) F7.o);simp only[←bI.o.1,←bI.o.2.1,←bI.o.2.2.1,←bI.o.2.2.2]at h9;exact h9
       have S9:Hid (Blk ((((w7.drew.setCell (α l (j*4)) (ι aa)).setCell (α l (j*4+1)) (ι ab)).setCell (α l (j*4+2)) (.slice A7 ad c7)).setCell (α l (j*4+3)) (.slice C7 af d7)) gS 142 (vS A5 H d5 A6 nU d6)):=(far_st (far_st (far_st (far_st S7.o bR.o _) bR.o _) bR.o _) bR.o _);have aL:Hid (Blk ((((w7.drew.setCell (α l (j*4)) (ι aa)).setCell (α l (j*4+1)) (ι ab)).setCell (α l (j*4+2)) (.slice A7 ad c7)).setCell (α l (j*4+3)) (.slice C7 af d7)) gV 181 (vB aa ab A7 ad c7 C7 af d7)):=(far_st (far_st (far_st (far_st aS.o bQ.o _) bQ.o _) bQ.o _) bQ.o _);have bv:Hid (Far g (some (α l 0)) A5 (nds T)):=Far_new (base:=w3.heap.size) (by have:=aE.o.1;have:=aG.o;omega) (fun b hb=>by have:=aE.o.2 b hb;have:=aG.o;omega) F5.o;have bw:Hid (Far g (some (α l 0)) A6 (ints UU)):=Far_new (base:=w3.heap.size) (by have:=aE.o.1;have:=aG.o;omega) (fun b hb=>by have:=aE.o.2 b hb;have:=aG.o;omega) F6.o;have N9:Hid (Nds ((((w7.drew.setCell (α l (j*4)) (ι aa)).setCell (α l (j*4+1)) (ι ab)).setCell (α l (j*4+2)) (.slice A7 ad c7)).setCell (α l (j*4+3)) (.slice C7 af d7)) ((((w7.drew.setCell (α l (j*4)) (ι aa)).setCell (α l (j*4+1)) (ι ab)).setCell (α l (j*4+2)) (.slice A7 ad c7)).setCell (α l (j*4+3)) (.slice C7 af d7)).heap.size A5 T):=Rd_setb (Rd_setb (Rd_setb (Rd_setb dd.o bv.o _ _) bv.o _ _) bv.o _ _) bv.o _ _;have R9:Hid (Ris ((((w7.drew.setCell (α l (j*4)) (ι aa)).setCell (α l (j*4+1)) (ι ab)).setCell (α l (j*4+2)) (.slice A7 ad c7)).setCell (α l (j*4+3)) (.slice C7 af d7)) ((((w7.drew.setCell (α l (j*4)) (ι aa)).setCell (α l (j*4+1)) (ι ab)).setCell (α l (j*4+2)) (.slice A7 ad c7)).setCell (α l (j*4+3)) (.slice C7 af d7)).heap.size A6 UU):=Rd_setb (Rd_setb (Rd_setb (Rd_setb de.o bw.o _ _) bw.o _ _) bw.o _ _) bw.o _ _;have bT:Hid (gZ≠l):=fun e=>blk_own_ne Z1.o M0.o.row (by decide) (by rw[e];rfl)
       have Z9:Hid (Blk ((((w7.drew.setCell (α l (j*4)) (ι aa)).setCell (α l (j*4+1)) (ι ab)).setCell (α l (j*4+2)) (.slice A7 ad c7)).setCell (α l (j*4+3)) (.slice C7 af d7)) gZ 74 (vI 0 0)):=(far_st (far_st (far_st (far_st (show Blk w7.drew gZ 74 (vI 0 0) from Blk.below' Z1.o ak.o) bT.o _) bT.o _) bT.o _) bT.o _);have bU:Hid (Kp w ((((w7.drew.setCell (α l (j*4)) (ι aa)).setCell (α l (j*4+1)) (ι ab)).setCell (α l (j*4+2)) (.slice A7 ad c7)).setCell (α l (j*4+3)) (.slice C7 af d7)) g (some (α l 0))):=Kp_setb (Kp_setb (Kp_setb (Kp_setb (Kp_of_below (CrdB.below_step U0.o ak.o)) _ _) _ _) _ _) _ _;have y:Hid (cB ((((w7.drew.setCell (α l (j*4)) (ι aa)).setCell (α l (j*4+1)) (ι ab)).setCell (α l (j*4+2)) (.slice A7 ad c7)).setCell (α l (j*4+3)) (.slice C7 af d7))):=⟨M9.o.blk.cell 7,aL.o.cell 0,aL.o.cell 1,aL.o.cell 2,aL.o.cell 3,S9.o.cell 0,S9.o.cell 1⟩
       go_upto_region 14 with fail
       refine Ω cB [12] ?_;generalize w7.drew=w8 at ak M7 S7 aS dd de bS br bt bu dg cy cz cA dh dj dl di dk dm I y M9 S9 aL N9 R9 Z9 bU ⊢;refine jA 0 I.o ?_;refine jA 1 I.o ?_;refine jA 2 I.o ?_;refine jB 3 I.o ?_;refine jA 4 I.o ?_;refine jA 5 I.o ?_;refine jB 6 I.o ?_;refine jB 7 I.o ?_;refine jA 8 I.o ?_;refine jN 9 fun K' hK=>?_
       go_simp;refine hK.out _ _ y.o ?_;clear hK K';refine jP ?_;clear bS br bt bu dg cy cz cA dh dj dl di dk dm;generalize ((((w8.setCell (α l (j*4)) (ι aa)).setCell (α l (j*4+1)) (ι ab)).setCell (α l (j*4+2)) (.slice A7 ad c7)).setCell (α l (j*4+3)) (.slice C7 af d7))=w9 at M9 S9 aL N9 R9 Z9 bU y ⊢;have K9:Hid (Blk w9 g 144 (vQ J (Q:Int) R S A U c (some (α L O)) P d C V f (some (α l 0)) Y Z An H d1 Au n2 d2 ep false)):=M9.o.blk;obtain⟨k0,k1,k2,k3,k4,k5,k6,k7,k8,k9,bX,bY,f0,f1,f2,f3,f4,f5,f6,f7,f8,f9,bZ,b0⟩:=q12_of K9.o;have x9:=χ ((blk_st K9.o 8 (.slice A5 H d5)).cell 9);have y9:=(blk_st K9.o 8 (.slice A5 H d5)).thaw 9;refine jA 10 y.o ?_;refine jA 11 y.o ?_;refine jV 12 fun K' hK=>?_
       go_simp;refine hK.out _ _ ?_;clear hK K';refine jP ?_;refine Δ ?_;clear k0 k1 k2 k3 k4 k5 k6 k7 k8 k9 bX bY f0 f1 f2 f3 f4 f5 f6 f7 f8 f9 bZ b0 x9 y9 I y;have dn:Hid (Mm base ((w9.setCell (α g 8) (.slice A5 H d5)).setCell (α g 9) (.slice A6 nU d6)) g ⟨J,(Q:Int),R,S,A,some (α L O),C,U,P,V,c,d,f,nd,K,sy,some (α l 0),Y,Z,E.set j ⟨A7,C7,c7,d7,ae,NB⟩,A5,A6,H,nU,d5,d6,T,UU,ep,false⟩):=Mm_cr M9.o N9.o R9.o bv.o bw.o L5.o dB.o;have bx:Hid (Blk ((w9.setCell (α g 8) (.slice A5 H d5)).setCell (α g 9) (.slice A6 nU d6)) gZ 74 (vI 0 0)):=far_st (far_st Z9.o MZ.o.ne _) MZ.o.ne _;have cC:Hid (Kp w ((w9.setCell (α g 8) (.slice A5 H d5)).setCell (α g 9) (.slice A6 nU d6)) g (some (α l 0))):=Kp_setg (Kp_setg bU.o _ _) _ _;have dp:gZ<w3.heap.size:=by have:=Z1.o.lt;have:=aG.o;omega
       have dq:Hid (Mz gZ g ⟨J,(Q:Int),R,S,A,some (α L O),C,U,P,V,c,d,f,nd,K,sy,some (α l 0),Y,Z,E.set j ⟨A7,C7,c7,d7,ae,NB⟩,A5,A6,H,nU,d5,d6,T,UU,ep,false⟩):=by
        have h8:=Mz_book MZ.o (i:=j) G.o (x:=⟨A7,C7,c7,d7,ae,NB⟩) (FzB_new (base:=w6.heap.size) (by have:=Z1.o.lt;have:=aT.o;omega) F7.o);exact⟨h8.ne,h8.z1,h8.z2,h8.z3,FarE_new dp F5.o,FarE_new dp F6.o,h8.zx⟩
       have dR:Hid (∀z,z<w.heap.size→Mz z g ⟨J,(Q:Int),R,S,A,some (α L O),C,U,P,V,c,d,f,nd,K,sy,some (α l 0),Y,Z,E,An,Au,H,n2,d1,d2,T,cu,ep,false⟩→Mz z g ⟨J,(Q:Int),R,S,A,some (α L O),C,U,P,V,c,d,f,nd,K,sy,some (α l 0),Y,Z,E.set j ⟨A7,C7,c7,d7,ae,NB⟩,A5,A6,H,nU,d5,d6,T,UU,ep,false⟩):=by
        intro z hz dS;have d9:=U0.o.size;have dr:z<w3.heap.size:=by have:=aG.o;omega
        have h8:=Mz_book dS (i:=j) G.o (x:=⟨A7,C7,c7,d7,ae,NB⟩) (FzB_new (base:=w6.heap.size) (by have:=aT.o;omega) F7.o);exact⟨h8.ne,h8.z1,h8.z2,h8.z3,FarE_new dr F5.o,FarE_new dr F6.o,h8.zx⟩
       go_upto_region 15 with fail
       clear M9 S9 aL N9 R9 Z9 bU K9;generalize ((w9.setCell (α g 8) (.slice A5 H d5)).setCell (α g 9) (.slice A6 nU d6))=ax at dn bx cC ⊢;have cD:=κ (β ax (.cells (vI 0 ah) 93));have bV:=κ (Blk.below' bx.o cD.o);have dT:=κ (Mm_below dn.o cD.o);have hO:Hid (Nds (ax.alloc (.cells (vI 0 ah) 93)) (ax.alloc (.cells (vI 0 ah) 93)).heap.size (some (α ax.heap.size 0)) [(0,ah)]):=rd_new rfl;have dU:=κ (Kp_step cC.o cD.o);have ds:Hid (ax.heap.size≠gZ):=by show _≠_;have:=bx.o.lt;omega
       have F3:Blk (st2 (ax.alloc (.cells (vI 0 ah) 93)) gZ (ι 0) (ι ah)) gZ 74 (vI 0 ah):=st2_blk bV.o
       have cE:ordF (plO ⟨J,(Q:Int),R,S,A,some (α L O),C,U,P,V,c,d,f,nd,K,sy,some (α l 0),Y,Z,E,An,Au,H,n2,d1,d2,T,cu,ep,false⟩) ⟨(aN:Int),os,ox,op,oq,on,ot⟩=(plO ⟨J,(Q:Int),R,S,A,some (α L O),C,U,P,V,c,d,f,nd,K,sy,some (α l 0),Y,Z,E.set j ⟨A7,C7,c7,d7,ae,NB⟩,A5,A6,H,nU,d5,d6,T,UU,ep,false⟩,(0,ah,[(0,ah)])):=by
        have e1:gB ((plO ⟨J,(Q:Int),R,S,A,some (α L O),C,U,P,V,c,d,f,nd,K,sy,some (α l 0),Y,Z,E,An,Au,H,n2,d1,d2,T,cu,ep,false⟩)).bs (shaP (plO ⟨J,(Q:Int),R,S,A,some (α L O),C,U,P,V,c,d,f,nd,K,sy,some (α l 0),Y,Z,E,An,Au,H,n2,d1,d2,T,cu,ep,false⟩) ⟨(aN:Int),os,ox,op,oq,on,ot⟩)=xb:=by rw[b7.o];exact bD.o
        have e2:(worF (plO ⟨J,(Q:Int),R,S,A,some (α L O),C,U,P,V,c,d,f,nd,K,sy,some (α l 0),Y,Z,E,An,Au,H,n2,d1,d2,T,cu,ep,false⟩) ⟨(aN:Int),os,ox,op,oq,on,ot⟩).2=ww:=by rw[aI.o]
        have e3:(E.set j ⟨A7,C7,c7,d7,ae,NB⟩).map Bx.b=(E.map Bx.b).set j NB:=by rw[List.map_set]
        rw[dG.o,e1,e2,b7.o];unfold plO;simp only[e3,Int.toNat_natCast,←dJ.o,←dK.o,←dC.o]
       have aj:MadeDo base g ⟨J,(Q:Int),R,S,A,some (α L O),C,U,P,V,c,d,f,nd,K,sy,some (α l 0),Y,Z,E,An,Au,H,n2,d1,d2,T,cu,ep,false⟩ (plO ⟨J,(Q:Int),R,S,A,some (α L O),C,U,P,V,c,d,f,nd,K,sy,some (α l 0),Y,Z,E.set j ⟨A7,C7,c7,d7,ae,NB⟩,A5,A6,H,nU,d5,d6,T,UU,ep,false⟩) 0 ah [(0,ah)] w (.returned (.tuple #[.agg (vI 0 ah),.slice (some (α ax.heap.size 0)) 1 1])) (st2 (ax.alloc (.cells (vI 0 ah) 93)) gZ (ι 0) (ι ah)):=by
        unfold st2;refine⟨⟨J,(Q:Int),R,S,A,some (α L O),C,U,P,V,c,d,f,nd,K,sy,some (α l 0),Y,Z,E.set j ⟨A7,C7,c7,d7,ae,NB⟩,A5,A6,H,nU,d5,d6,T,UU,ep,false⟩,some (α ax.heap.size 0),1,1,rfl,rfl,?_,?_,Mm_setz (Mm_setz dT.o dq.o bV.o (by decide) 0 _) dq.o (blk_st bV.o 0 _) (by decide) 1 _,rfl,rfl,Kp_past (Kp_past dU.o ar.o 0 _) ar.o 1 _,dR.o⟩
        ·exact Rd.keep' (Rd.keep' hO.o (Nat.lt_succ_self _) (fun a ha=>by have e:=Option.some.inj ha;rw[←e];exact ds.o) _) (Nat.lt_succ_self _) (fun a ha=>by have e:=Option.some.inj ha;rw[←e];exact ds.o) _
        ·intro a ha;have e:=Option.some.inj ha;rw[←e];exact cC.o.size
       have HF:=κ aj;have cE:=κ cE;clear aj;obtain⟨z0,z1,z2,z3⟩:=q2b bx.o;have zx:=χ ((blk_st bx.o 0 (ι 0)).cell 1);obtain⟨s0,s1,s2,s3⟩:=q2b bV.o
       go_wp2_with fail
       obtain⟨e0,e1,_,_⟩:=q2b F3;clear F3;unfold st2 at e0 e1 HF;exact bodyPost_ret (v:= .tuple #[.agg #[ι 0,ι ah],.slice (some (α ax.heap.size 0)) 1 1]) (by simp[results,Tryz.results55,go_sem,e0,e1]) rfl (by first|exact HF.o|(rw[cE.o];exact HF.o))
end Mdo
end Go.Proofs.YtcccdikhfgpamaaGreat
