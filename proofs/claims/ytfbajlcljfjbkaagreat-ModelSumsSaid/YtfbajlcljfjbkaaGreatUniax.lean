/- Texts side by side. -/
import Derived.Test.YtfbajlcljfjbkaaGreatUniau
set_option linter.unusedVariables false
set_option linter.unusedSimpArgs false
set_option maxRecDepth 100000
set_option maxHeartbeats 16000000
namespace Go.Proofs.YtfbajlcljfjbkaaGreat
open Kap Abv Go.ChangeShapes Go.WideShapes Go.ChangeAt Go.RowKit Mem Tre Ref3 Law3 Crd CrdB CrdC Rr4 Bkp Bks Bkf Bcl Dlk Stk Apt Bko Bku Bka Bkc Bkq
namespace Mdl
open Fix3 Cfg Cpl Lim Cfr Mdp Mdz Mds Mdo Lat
open Rul1 hiding below_step
def lmtF(p:Pm)(n x:Int):Pm×(Int×Int×List (Int×Int)):=
 if Cpl.limF p.cl n x≠0 then (p,(Cpl.limF p.cl n x,0,[])) else ({p with cl:=Cpl.limL p.cl n x},(0,0,[]))
variable {c n x:Int} {p:Pm}
theorem lmt_no(hc:c=Cpl.limF p.cl n x)(h:c≠0):lmtF p n x=(p,(c,0,[])):=by
 unfold lmtF;rw[←hc,if_pos h]
theorem lmt_yes{l:List (Int×Int)}(hc:c=Cpl.limF p.cl n x)(hl:l=Cpl.limL p.cl n x)(h:c=0):lmtF p n x=({p with cl:=l},(0,0,[])):=by
 unfold lmtF;rw[←hc,if_neg (by rw[h];decide),←hl]
theorem mlimit_any(base g m:Nat)(q:Mq)(i x:Int)(w:World)(h:Hid (Mm base w g q))(hv:Hid (Vq m q))(hm:m≤900)(hi:inI i)(hx0: -9223372036854775808≤x)(hx1:x≤9223372036854775807):
  Calls Tryz.prog 45 #[.pointer (some ⟨g,0,none⟩),.int .i64 i,.int .i64 x] w (MadeDo base g q (lmtF (plO q) i x).1 (lmtF (plO q) i x).2.1 (lmtF (plO q) i x).2.2.1 (lmtF (plO q) i x).2.2.2 w):=by
 obtain⟨sh,wi,ra,ta,A,B,C,nl,al,sl,c,d,f,nd,ac,sy,Ab,nb,cb,xs,An,Au,n1,n2,d1,d2,cl,cu,ep,off⟩:=q;obtain⟨v1,v2,va1,v3,v4,v5,v6,v7,v8,v9,v10⟩:=hv.out;obtain⟨l1,l2,l3,l4,l5,l6⟩:=(⟨h.out.l1,h.out.l2,h.out.l3,h.out.l4,h.out.l5,h.out.l6⟩:nl=nd.length∧al=ac.length∧sl=sy.length∧nb=xs.length∧n1=cl.length∧n2=cu.length);have L1:=κ l1;have L2:=κ l2;have L3:=κ l3;have L4:=κ l4;have L5:=κ l5;have L6:=κ l6;have V4:=κ v4;have V5:=κ v5;have V7:=κ v7;have V9:=κ v9;have V10:=κ v10;simp only at v1 v2 va1 v3 v6 v8;obtain⟨gb,hgb⟩:=own_at h.out.row (by show 0<nb;simp only at v7;omega);simp only at hgb;subst hgb;have hnb:nb≤1000∧1≤nb:=by simp only at v7;omega
 clear l1 l2 l3 l4 l5 l6 v4 v5 v7 v9 v10;have U0:=κ (β w (.cells (vI 0 0) 56));have Z0:=κ (Blk.fresh w 56 (vI 0 0));have M0:=κ (Mm_below h.out U0.out);have MZ:=κ (Mz_of h.out τ)
 go_enter Tryz.func45,Tryz.ntmps45
 go_upto_region 1 with fail
 generalize hgZ:w.heap.size=gZ at Z0 MZ ⊢;have HGZ:=κ hgZ;have HGZ':Hid (w.heap.size≤gZ):=by show _≤_;omega
 clear hgZ;generalize (w.alloc (.cells (vI 0 0) 56))=w0 at Z0 U0 M0 ⊢;have K0:Hid (Blk w0 g 97 (vQ sh wi ra ta A nl c B al d C sl f (some (α gb 0)) nb cb An n1 d1 Au n2 d2 ep off)):=M0.out.blk;obtain⟨k0,k1,k2,k3,k4,k5,k6,k7,k8,k9,k10,k11,f0,f1,f2,f3,f4,f5,f6,f7,f8,f9,f10,f11⟩:=q12_of K0.out;obtain⟨cc,hcc⟩:=ν (Cpl.limF cl i x);obtain⟨CL,hCL⟩:=ν (Cpl.limL cl i x);obtain⟨nC,hnC⟩:=ν CL.length;have RS:=limit_fresh An Au d1 d2 cl cu i x w0 (κ M0.out.cn) (κ M0.out.cr) V10.out hi hx0 hx1;unfold MadeLimF at RS;rw[←hcc,←hCL,←L5.out,←L6.out]at RS;simp only[←hnC]at RS;have HNC:=κ hnC;have HCC:=κ hcc;have HCL:=κ hCL;clear hcc hCL hnC
 go_wp2_with fail
 refine RS.mono ?_;rintro e w2 ⟨A5,d5,A6,d6,rfl,hn5,hu5,hb2,fa5,fb5⟩;have U3:=β w2 (.cells (vS A5 nC d5 A6 n2 d6) 80);have S3:=κ (Blk.fresh w2 80 (vS A5 nC d5 A6 n2 d6));have HB7:=κ (CrdB.below_step hb2 U3);have N5:=θ hn5 U3;have R5:=η hu5 U3;have F5:=κ fa5;have F6:=κ fb5;have HVL:=κ hb2.size;clear hn5 hu5 hb2 fa5 fb5 U3 RS
 go_upto_region 2 with fail
 clear k0 k1 k2 k3 k4 k5 k6 k7 k8 k9 k10 k11 f0 f1 f2 f3 f4 f5 f6 f7 f8 f9 f10 f11 K0;obtain⟨gS,hgS⟩:=ν w2.heap.size;have S7:=κ (ζ hgS S3.out);have HVL:Hid (w0.heap.size≤gS):=by rw[hgS];exact HVL.out
 simp only[←hgS];clear hgS S3;generalize w2.alloc (.cells (vS A5 nC d5 A6 n2 d6) 80)=w3 at HB7 N5 R5 S7 ⊢;by_cases hcc0:cc=0
 case neg=>
  have t1:(cc != 0)=true:=by simp[hcc0]
  go_upto_region 3 with fail
  have HP0:Hid (lmtF (plO ⟨sh,wi,ra,ta,A,B,C,nl,al,sl,c,d,f,nd,ac,sy,some (α gb 0),nb,cb,xs,An,Au,n1,n2,d1,d2,cl,cu,ep,off⟩) i x=((plO ⟨sh,wi,ra,ta,A,B,C,nl,al,sl,c,d,f,nd,ac,sy,some (α gb 0),nb,cb,xs,An,Au,n1,n2,d1,d2,cl,cu,ep,off⟩),(cc,0,[]))):=lmt_no HCC.out hcc0
  go_wp2_with fail
  refine(refused_any cc _).mono ?_;rintro e wR ⟨rfl,hbR⟩;have HBR:=κ (CrdB.below_step HB7.out hbR);have MR:=κ (Mm_below M0.out HBR.out);have ZR:=κ (Blk.below' Z0.out HBR.out);have UR:Hid (Kp w wR g (some (α gb 0))):=Kp_of_below (CrdB.below_step U0.out HBR.out);clear hbR;obtain⟨z0,z1,z2,z3⟩:=q2b ZR.out;have zx:=χ ((blk_st ZR.out 0 (ι cc)).cell 1);have F3:Blk (st2 wR gZ (ι cc) (ι 0)) gZ 56 (vI cc 0):=st2_blk ZR.out
  have hfin:MadeDo base g ⟨sh,wi,ra,ta,A,B,C,nl,al,sl,c,d,f,nd,ac,sy,some (α gb 0),nb,cb,xs,An,Au,n1,n2,d1,d2,cl,cu,ep,off⟩ (plO ⟨sh,wi,ra,ta,A,B,C,nl,al,sl,c,d,f,nd,ac,sy,some (α gb 0),nb,cb,xs,An,Au,n1,n2,d1,d2,cl,cu,ep,off⟩) cc 0 [] w (.returned (.tuple #[.agg (vI cc 0),.slice none 0 0])) (st2 wR gZ (ι cc) (ι 0)):=by
   unfold st2;refine madeDo_no (q:=⟨sh,wi,ra,ta,A,B,C,nl,al,sl,c,d,f,nd,ac,sy,some (α gb 0),nb,cb,xs,An,Au,n1,n2,d1,d2,cl,cu,ep,off⟩) (Mm_setz (Mm_setz MR.out MZ.out ZR.out (by decide) 0 _) MZ.out (blk_st ZR.out 0 _) (by decide) 1 _) rfl rfl ?_ (fun z _ h=>Mz_same h);exact Kp_past (Kp_past UR.out HGZ'.out 0 _) HGZ'.out 1 _
  have HF:=κ hfin;clear hfin
  go_wp2_with fail
  obtain⟨e0,e1,_,_⟩:=q2b F3;clear F3;unfold st2 at e0 e1 HF;exact bodyPost_ret (v:= .tuple #[.agg #[ι cc,ι 0],.slice none 0 0]) (by simp[results,Tryz.results45,go_sem,e0,e1]) rfl (by first|exact HF.out|(rw[HP0.out];exact HF.out))
 case pos=>
  have t1:(cc != 0)=false:=by simp[hcc0]
  have HCY:=κ (lmt_yes (p:=(plO ⟨sh,wi,ra,ta,A,B,C,nl,al,sl,c,d,f,nd,ac,sy,some (α gb 0),nb,cb,xs,An,Au,n1,n2,d1,d2,cl,cu,ep,off⟩)) HCC.out HCL.out hcc0);clear hcc0
  go_upto_region 4 with fail
  have LT0:=κ (Mm_lt M0.out);have M3:=κ (Mm_below M0.out HB7.out);have K3:Hid (Blk w3 g 97 (vQ sh wi ra ta A nl c B al d C sl f (some (α gb 0)) nb cb An n1 d1 Au n2 d2 ep off)):=M3.out.blk;have Z3:=κ (Blk.below' Z0.out HB7.out);have fA5:Hid (Far g (some (α gb 0)) A5 (nds CL)):=Far_new (base:=w0.heap.size) LT0.out.1 LT0.out.2 F5.out;have fA6:Hid (Far g (some (α gb 0)) A6 (ints cu)):=Far_new (base:=w0.heap.size) LT0.out.1 LT0.out.2 F6.out;have M10:Hid (Mm base ((w3.setCell (α g 8) (.slice A5 nC d5)).setCell (α g 9) (.slice A6 n2 d6)) g ⟨sh,wi,ra,ta,A,B,C,nl,al,sl,c,d,f,nd,ac,sy,some (α gb 0),nb,cb,xs,A5,A6,nC,n2,d5,d6,CL,cu,ep,off⟩):=Mm_cr M3.out N5.out R5.out fA5.out fA6.out HNC.out L6.out;have Z10:Hid (Blk ((w3.setCell (α g 8) (.slice A5 nC d5)).setCell (α g 9) (.slice A6 n2 d6)) gZ 56 (vI 0 0)):=far_st (far_st Z3.out MZ.out.ne _) MZ.out.ne _;have KP10:Hid (Kp w ((w3.setCell (α g 8) (.slice A5 nC d5)).setCell (α g 9) (.slice A6 n2 d6)) g (some (α gb 0))):=Kp_setg (Kp_setg (Kp_of_below (CrdB.below_step U0.out HB7.out)) _ _) _ _;have MZ10:Hid (Mz gZ g ⟨sh,wi,ra,ta,A,B,C,nl,al,sl,c,d,f,nd,ac,sy,some (α gb 0),nb,cb,xs,A5,A6,nC,n2,d5,d6,CL,cu,ep,off⟩):=⟨MZ.out.ne,MZ.out.z1,MZ.out.z2,MZ.out.z3,FarE_new Z0.out.lt F5.out,FarE_new Z0.out.lt F6.out,MZ.out.zx⟩;obtain⟨k0,k1,k2,k3,k4,k5,k6,k7,k8,k9,k10,k11,f0,f1,f2,f3,f4,f5,f6,f7,f8,f9,f10,f11⟩:=q12_of K3.out;obtain⟨s0,s1,s2,s3⟩:=q2b S7.out;have x9:=χ ((blk_st K3.out 8 (.slice A5 nC d5)).cell 9);have y9:=(blk_st K3.out 8 (.slice A5 nC d5)).thaw 9
  go_upto_region 5 with fail
  clear k0 k1 k2 k3 k4 k5 k6 k7 k8 k9 k10 k11 f0 f1 f2 f3 f4 f5 f6 f7 f8 f9 f10 f11 x9 y9 s0 s1 s2 s3 K3 M3 Z3;generalize ((w3.setCell (α g 8) (.slice A5 nC d5)).setCell (α g 9) (.slice A6 n2 d6))=w9 at M10 Z10 KP10 ⊢;obtain⟨z0,z1,z2,z3⟩:=q2b Z10.out;have zx:=χ ((blk_st Z10.out 0 (ι 0)).cell 1);have F3:Blk (st2 w9 gZ (ι 0) (ι 0)) gZ 56 (vI 0 0):=st2_blk Z10.out
  have hfin:MadeDo base g ⟨sh,wi,ra,ta,A,B,C,nl,al,sl,c,d,f,nd,ac,sy,some (α gb 0),nb,cb,xs,An,Au,n1,n2,d1,d2,cl,cu,ep,off⟩ (plO ⟨sh,wi,ra,ta,A,B,C,nl,al,sl,c,d,f,nd,ac,sy,some (α gb 0),nb,cb,xs,A5,A6,nC,n2,d5,d6,CL,cu,ep,off⟩) 0 0 [] w (.returned (.tuple #[.agg (vI 0 0),.slice none 0 0])) (st2 w9 gZ (ι 0) (ι 0)):=by
   unfold st2;refine madeDo_no (q:=⟨sh,wi,ra,ta,A,B,C,nl,al,sl,c,d,f,nd,ac,sy,some (α gb 0),nb,cb,xs,A5,A6,nC,n2,d5,d6,CL,cu,ep,off⟩) (Mm_setz (Mm_setz M10.out MZ10.out Z10.out (by decide) 0 _) MZ10.out (blk_st Z10.out 0 _) (by decide) 1 _) rfl rfl ?_ (fun z hz h=>⟨h.ne,h.z1,h.z2,h.z3,FarE_new (Nat.lt_of_lt_of_le hz U0.out.size) F5.out,FarE_new (Nat.lt_of_lt_of_le hz U0.out.size) F6.out,h.zx⟩);exact Kp_past (Kp_past KP10.out HGZ'.out 0 _) HGZ'.out 1 _
  have HF:=κ hfin;clear hfin
  go_wp2_with fail
  obtain⟨e0,e1,_,_⟩:=q2b F3;clear F3;unfold st2 at e0 e1 HF;exact bodyPost_ret (v:= .tuple #[.agg #[ι 0,ι 0],.slice none 0 0]) (by simp[results,Tryz.results45,go_sem,e0,e1]) rfl (by first|exact HF.out|(rw[HCY.out];exact HF.out))
end Mdl
namespace Bkw
variable {b:Bk} {ca sh:Int} {op:List En} {ids:List Int} {rl:List Rc} {rows:List Ro} {base c ci co cr d gB gZ ni no nr:Nat} {A Ai Ao Ar C:Option Addr} {w w' w0:World}
theorem infoN:(Tryz.prog.info? 3).map (fun i=>(i.zero,i.size,i.bytes))=some (some (.int .i64 0),1,8):=by kernel_rfl
def swC(ep:Int)(e:En):Bool:=decide (e.st=1)&&decide (e.ep≤ep)
def swE(ep:Int)(e:En):En:=if swC ep e=true then setS e 2 else e
def swI(ep:Int)(l:List En):List Int:=(l.filter (swC ep)).map En.id
def sweepF(b:Bk)(ep:Int):Bk:=⟨b.sh,b.ca,b.rows,b.op.map (swE ep)⟩
def swO(ep:Int)(op:List En)(i:Nat):List En:=(op.take i).map (swE ep)++op.drop i
theorem swO_len(ep:Int)(op:List En)(i:Nat):(swO ep op i).length=op.length:=by
 unfold swO;rw[List.length_append,List.length_map,List.length_take,List.length_drop];omega
theorem swO_get(ep:Int)(op:List En)(i:Nat)(hi:i<op.length):gE (swO ep op i) i=gE op i:=by
 unfold swO gE;rw[List.getD,List.getElem?_append_right (by rw[List.length_map,List.length_take];omega),List.length_map,List.length_take,List.getElem?_drop];simp only[List.getD]
 congr 2
 omega
theorem swO_succ(ep:Int)(op:List En)(i:Nat)(hi:i<op.length):swO ep op (i+1)=(op.take i).map (swE ep)++swE ep (gE op i) :: op.drop (i+1):=by
 unfold swO
 have e:op.take (i+1)=op.take i++[gE op i]:=by
  rw[List.take_succ_eq_append_getElem hi];simp[gE,hi]
 rw[e,List.map_append,List.append_assoc]
 rfl
theorem swO_no(ep:Int)(op:List En)(i:Nat)(hi:i<op.length)(h:swC ep (gE op i)=false):swO ep op (i+1)=swO ep op i:=by
 rw[swO_succ _ _ _ hi];unfold swO swE;rw[h,if_neg (by decide)]
 congr 1
 rw[List.drop_eq_getElem_cons hi];simp[gE,hi]
theorem swO_yes(ep:Int)(op:List En)(i:Nat)(hi:i<op.length)(h:swC ep (gE op i)=true):swO ep op (i+1)=(swO ep op i).set i (setS (gE op i) 2):=by
 rw[swO_succ _ _ _ hi];have e2:swE ep (gE op i)=setS (gE op i) 2:=by unfold swE;rw[if_pos h]
 rw[e2];unfold swO;rw[List.set_append_right _ _ (by rw[List.length_map,List.length_take];omega),List.length_map,List.length_take,show i-min i op.length=0 by omega,List.drop_eq_getElem_cons hi]
 rfl
theorem swI_succ(ep:Int)(op:List En)(i:Nat)(hi:i<op.length):swI ep (op.take (i+1))=swI ep (op.take i)++(if swC ep (gE op i)=true then [(gE op i).id] else []):=by
 have e:op.take (i+1)=op.take i++[gE op i]:=by
  rw[List.take_succ_eq_append_getElem hi];simp[gE,hi]
 unfold swI;rw[e,List.filter_append,List.map_append]
 congr 1
 split
 ·rename_i h;simp[h]
 ·rename_i h;simp[h]
theorem swO_all(ep:Int)(op:List En):swO ep op op.length=op.map (swE ep):=by simp[swO]
theorem swI_le(ep:Int)(l:List En):(swI ep l).length≤l.length:=by
 unfold swI;rw[List.length_map];exact List.length_filter_le _ _
structure Sw(w0 w:World)(gB gZ:Nat)(sh ca:Int)(Ar Ao:Option Addr)(nr cr no co:Nat)(rl:List Rc)(rows:List Ro)(op:List En)(Ai:Option Addr)(ni ci:Nat)(ids:List Int):Prop where
 kB:Blk w gB 75 #[.int .i64 sh,.int .i64 ca,.slice Ar nr cr,.slice Ao no co]
 kR:Blk w gZ 75 #[.int .i64 0,.int .i64 0,.slice none 0 0,.slice none 0 0]
 bo:Bo w0.heap.size w Ar Ao cr co rl ⟨sh,ca,rows,op⟩
 ids:w.ownsRow w0.heap.size 3 1 (.slice Ai ni ci) ni (ints ids)
 b:Below w0.heap.size w0 w
theorem Bo_below(h:Bo base w A C c d rl b)(hb:Below w.heap.size w w'):Bo base w' A C c d rl b:=
 ⟨own_below h.r hb,own_below h.o hb,h.e,fun k hk=>own_below (h.own k hk) hb,h.ap⟩
theorem Bo_grown(h:Bo base w A C c d rl b){b2 s2 n2:Nat}{e2:TypeId}{v2:Value}{x2:List Value}(k:w.ownsRow b2 e2 s2 v2 n2 x2)(h1:154≠e2)(h2:157≠e2)(h3:2≠e2)(hg:w.grownBy w' v2.ownBlock):Bo base w' A C c d rl b:=
 ⟨own_grown h.r k h1 hg,own_grown h.o k h2 hg,h.e,fun j hj=>own_grown (h.own j hj) k h3 hg,h.ap⟩
theorem Sw_below(h:Sw w0 w gB gZ sh ca Ar Ao nr cr no co rl rows op Ai ni ci ids)(hb:Below w.heap.size w w'):Sw w0 w' gB gZ sh ca Ar Ao nr cr no co rl rows op Ai ni ci ids:=
 ⟨Blk.below' h.kB hb,Blk.below' h.kR hb,Bo_below h.bo hb,own_below h.ids hb,below_step h.b hb⟩
theorem Sw_set{go:Nat}(h:Sw w0 w gB gZ sh ca Ar (some ⟨go,0,none⟩) nr cr no co rl rows op Ai ni ci ids)(i:Nat)(hi:i<op.length):
  Sw w0 (w.setCell ⟨go,i*11+9,none⟩ (.int .i64 2)) gB gZ sh ca Ar (some ⟨go,0,none⟩) nr cr no co rl rows (op.set i (setS (gE op i) 2)) Ai ni ci ids:=by
 obtain⟨s1,g1⟩:=World.ownsRow.stored h.bo.o (i*11+9) (.int .i64 2);exact⟨blk_own_grown h.kB h.bo.o (by decide) g1,blk_own_grown h.kR h.bo.o (by decide) g1,Bo_setE h.bo (i*11+9) _ _ (by simp) (ens_setS _ _ hi _),own_grown h.ids h.bo.o (by decide) g1,h.b.setCell (p:=(α go (i*11+9))) (own_fresh h.bo.o (α go 0) rfl) _⟩
theorem Sw_app(h:Sw w0 w gB gZ sh ca Ar Ao nr cr no co rl rows op Ai ni ci ids){A':Option Addr}{n' c':Nat}{x:Int}
  (ho:w'.ownsRow w0.heap.size 3 1 (.slice A' n' c') n' (ints ids++[.int .i64 x]))(hg:w.grownBy w' (Value.slice Ai ni ci).ownBlock):Sw w0 w' gB gZ sh ca Ar Ao nr cr no co rl rows op A' n' c' (ids++[x]):=
 ⟨blk_own_grown h.kB h.ids (by decide) hg,blk_own_grown h.kR h.ids (by decide) hg,Bo_grown h.bo h.ids (by decide) (by decide) (by decide) hg,by rw[ints_snoc];exact ho,grown_below h.b h.ids hg τ h.b.size⟩
def MadeSw(b:Bk)(ids:List Int)(w:World)(e:Ending)(w':World):Prop:=
 ∃A C c d rl Ai ci,e= .returned (.tuple #[bkA A C c d b,.slice Ai ids.length ci])∧Bm w' A C rl b∧Fb w.heap.size A C rl∧Ris w' w'.heap.size Ai ids∧(∀a,Ai=some a→w.heap.size≤a.block)∧Below w.heap.size w w'
theorem sweep_any(sh ca:Int)(A C:Option Addr)(nr no c d:Nat)(rl:List Rc)(bk:Bk)(ep:Int)(w:World)(hsh:Hid (sh=bk.sh∧ca=bk.ca))(hnr:Hid (nr=bk.rows.length))(hno:Hid (no=bk.op.length))(hm:Hid (Bm w A C rl bk))(hf:Hid (FewB bk)):
  Calls Tryz.prog 64 #[.agg #[.int .i64 sh,.int .i64 ca,.slice A nr c,.slice C no d],.int .i64 ep] w (MadeSw (sweepF bk ep) (swI ep bk.op) w):=by
 obtain⟨i0,hi,hz0,hz1,hz2⟩:=info_parts infoN;have hl1:nr≤1000:=by rw[hnr.out];exact hf.out.rl
 have hl2:no≤1000:=by rw[hno.out];exact hf.out.ol
 have b0:=κ (γ w (.cells (vB sh ca A nr c C no d) 75) (.cells (vB 0 0 none 0 0 none 0 0) 75));have K0:=κ ((Blk.fresh w 75 (vB sh ca A nr c C no d)).alloc (.cells (vB 0 0 none 0 0 none 0 0) 75));have R0:=κ (δ (w.alloc (.cells (vB sh ca A nr c C no d) 75)) 75 (vB 0 0 none 0 0 none 0 0) (w.heap.size+1))
 go_enter Tryz.func64,Tryz.ntmps64
 go_upto_region 1 with fail
 generalize ((w.alloc (.cells (vB sh ca A nr c C no d) 75)).alloc (.cells (vB 0 0 none 0 0 none 0 0) 75))=w0 at b0 K0 R0 ⊢;obtain⟨gB,hgB⟩:=ν w.heap.size;obtain⟨gZ,hgR⟩:=ν (w.heap.size+1);have hBR:Hid (gZ≠gB):=by show _≠_;omega
 have hLB:Hid (w.heap.size≤gB):=by show _≤_;omega
 have hLR:Hid (w.heap.size≤gZ):=by show _≤_;omega
 have J1:=κ (ζ hgB K0.out);have J3:=κ (ζ hgR R0.out);simp only[←hgR];simp only[←hgB];clear hgB hgR K0 R0;obtain⟨k0,k1,k2,k3⟩:=q4_of J1.out;have HM:=κ (hm.out.below b0.out)
 go_wp2_with fail
 refine(own_any sh ca A C nr no c d rl bk _ hsh hnr hno HM hf).mono ?_;rintro e w2 ⟨Ar,Ao,cr,co,rl2,he,hbo,hb2⟩;have hbk:bkA Ar Ao cr co bk= .agg (vB sh ca Ar nr cr Ao no co):=by unfold bkA;rw[hnr.out,hno.out,hsh.out.1,hsh.out.2]
 rw[hbk]at he;subst he;have HBO:=κ (Bo_mono hbo b0.out.size);have HB2:=κ (below_step b0.out hb2);have L1:=κ (Blk.below' J1.out hb2);have L3:=κ (Blk.below' J3.out hb2);clear k0 k1 k2 k3 hb2 hbk hbo J1 J3 HM b0;obtain⟨k0,k1,k2,k3,f0,f1,f2,f3⟩:=z4_of L1.out;have B3:Hid (Bo w.heap.size ((((w2.setCell (α gB 0) (ι sh)).setCell (α gB 1) (ι ca)).setCell (α gB 2) (.slice Ar nr cr)).setCell (α gB 3) (.slice Ao no co)) Ar Ao cr co rl2 bk):=Bo_st4 HBO.out L1.out (by decide) (by decide) (by decide) _ _ _ _;have P1:Hid (Blk ((((w2.setCell (α gB 0) (ι sh)).setCell (α gB 1) (ι ca)).setCell (α gB 2) (.slice Ar nr cr)).setCell (α gB 3) (.slice Ao no co)) gB 75 (vB sh ca Ar nr cr Ao no co)):=st4_blk L1.out;have P3:Hid (Blk ((((w2.setCell (α gB 0) (ι sh)).setCell (α gB 1) (ι ca)).setCell (α gB 2) (.slice Ar nr cr)).setCell (α gB 3) (.slice Ao no co)) gZ 75 (vB 0 0 none 0 0 none 0 0)):=st4_far L3.out hBR.out;have B3b:Hid (Below w.heap.size w ((((w2.setCell (α gB 0) (ι sh)).setCell (α gB 1) (ι ca)).setCell (α gB 2) (.slice Ar nr cr)).setCell (α gB 3) (.slice Ao no co))):=st4_below HB2.out hLB.out
 go_upto_region 3 with fail
 clear k0 k1 k2 k3 f0 f1 f2 f3 L1 L3 HBO HB2;generalize ((((w2.setCell (α gB 0) (ι sh)).setCell (α gB 1) (ι ca)).setCell (α gB 2) (.slice Ar nr cr)).setCell (α gB 3) (.slice Ao no co))=w3 at B3 P1 P3 B3b ⊢;have SW0:Hid (Sw w w3 gB gZ sh ca Ar Ao nr cr no co rl2 bk.rows (swO ep bk.op 0) none 0 0 (swI ep (bk.op.take 0))):=⟨P1.out,P3.out,by have h:=B3.out;exact⟨h.r,h.o,h.e,h.own,h.ap⟩,World.ownsRow_nil _ _ _ _,B3b.out⟩;obtain⟨k0,k1,k2,k3⟩:=q4_of P1.out
 go_upto_region 4 with fail
 clear k0 k1 k2 k3 B3 P1 P3 B3b
 go_wp2_with fail
 go_loopg [6,14] no (fun g s6 s14 w'=> ∃(i:Nat) (Ai:Option Addr) (ni ci:Nat),i+g=no∧s6= .slice Ai ni ci∧s14= ι i∧Hid (ni=(swI ep (bk.op.take i)).length)∧Hid (Sw w w' gB gZ sh ca Ar Ao nr cr no co rl2 bk.rows (swO ep bk.op i) Ai ni ci (swI ep (bk.op.take i))))
 case atStart=>exact⟨0,none,0,0,by omega,rfl,rfl,rfl,SW0⟩
 case round=>
  clear SW0;obtain⟨i,Ai,ni,ci,hg0,rfl,rfl,HNI,SWi⟩:=hrel;by_cases hlt:i<no
  ·obtain⟨g,rfl⟩: ∃g,gk=g+1:=⟨gk-1,by omega⟩;have t0:decide ((i:Int)<(no:Int))=true:=by simp;omega
   have hio:i<bk.op.length:=by rw[←hno.out];exact hlt
   have HIO:=κ hio;have hol:(swO ep bk.op i).length=bk.op.length:=swO_len _ _ _;obtain⟨go,hgo⟩:=own_at SWi.out.bo.o (by show 0<(swO ep bk.op i).length;omega);subst hgo;obtain⟨_,_,hncap,_,hroom,hcell⟩:=own_room SWi.out.bo.o;have hco:no≤co:=by rw[hno.out,←hol];exact hncap
   have cs:=fun j (hj:j<11) v hv=>hcell (i*11+j) v ((ens_get (swO ep bk.op i) i j (by omega) hj).trans hv)
   rw[swO_get _ _ _ hio]at cs;obtain⟨E,hE⟩:=ν (gE bk.op i);rw[←hE]at cs;have HE:=κ hE;clear hE;obtain⟨id,⟨a,s,x,p,q',n,tt⟩,lf,st,ep'⟩:=E;have c0:=cs 0 (by decide) _ rfl;have c1:=cs 1 (by decide) _ rfl;have c2:=cs 2 (by decide) _ rfl;have c3:=cs 3 (by decide) _ rfl;have c4:=cs 4 (by decide) _ rfl;have c5:=cs 5 (by decide) _ rfl;have c6:=cs 6 (by decide) _ rfl;have c7:=cs 7 (by decide) _ rfl;have c8:=cs 8 (by decide) _ rfl;have c9:=cs 9 (by decide) _ rfl;have c10:=cs 10 (by decide) _ rfl;simp only[Nat.add_zero]at c0;clear cs hcell hroom;have U5:=κ (β wr (.cells (vE id a s x p q' n tt lf st ep') 157));have E5:=κ (Blk.fresh wr 157 (vE id a s x p q' n tt lf st ep'));have S5:=κ (Sw_below SWi.out U5.out);have hgE:Hid (go≠wr.heap.size):=by show _≠_;have:=World.ownsRow.lt SWi.out.bo.o go rfl;omega
   go_upto_region 6 with fail
   clear c0 c1 c2 c3 c4 c5 c6 c7 c8 c9 c10 U5 SWi;generalize wr.alloc (.cells (vE id a s x p q' n tt lf st ep') 157)=w5 at E5 S5 ⊢;generalize wr.heap.size=gE' at E5 hgE ⊢;obtain⟨e0,e1,e2,e3,e4,e5,e6,e7,e8,e9,e10⟩:=q11_of E5.out;by_cases hst:st=1
   ·have t1:(st==1)=true:=by simp[hst]
    by_cases hep:ep'≤ep
    ·have t2:decide (ep'≤ep)=true:=by simp[hep]
     have hC:swC ep (gE bk.op i)=true:=by rw[←HE.out];unfold swC;simp[hst,hep]
     have HO:=κ (swO_yes ep bk.op i hio hC);have HI2:=κ (swI_succ ep bk.op i hio);rw[hC,if_pos rfl,←HE.out]at HI2;have HID:Hid ((⟨id,⟨a,s,x,p,q',n,tt⟩,lf,st,ep'⟩:En).id=id):=rfl;rw[HID.out]at HI2;have hnl:ni≤1000:=by rw[HNI.out];have:=swI_le ep (bk.op.take i);rw[List.length_take]at this;omega
     clear hst hC;obtain⟨k0,k1,k2,k3⟩:=q4_of S5.out.kB;obtain⟨_,_,_,_,hroom,hcell⟩:=own_room S5.out.bo.o;have d9:=hcell (i*11+9) _ (ens_get (swO ep bk.op i) i 9 (by omega) (by decide));have g9:=(hroom (i*11+9) (by omega)).2;clear hroom hcell
     have S6:Hid (Sw w (w5.setCell (α go (i*11+9)) (ι 2)) gB gZ sh ca Ar (some (α go 0)) nr cr no co rl2 bk.rows (swO ep bk.op (i+1)) Ai ni ci (swI ep (bk.op.take i))):=by
      rw[HO.out,←swO_get ep bk.op i hio];exact Sw_set S5.out i (by omega)
     have E6:Hid (Blk (w5.setCell (α go (i*11+9)) (ι 2)) gE' 157 (vE id a s x p q' n tt lf st ep')):=far_st E5.out (fun e=>hgE.out e.symm) _
     go_upto_region 8 with fail
     clear k0 k1 k2 k3 d9 g9 e0 e1 e2 e3 e4 e5 e6 e7 e8 e9 e10 E5 S5 HO;generalize w5.setCell (α go (i*11+9)) (ι 2)=w6 at S6 E6 ⊢;obtain⟨e0,e1,e2,e3,e4,e5,e6,e7,e8,e9,e10⟩:=q11_of E6.out;obtain⟨ni1,hni1⟩:=ν (ni+1);have HN1:=κ hni1;clear hni1;have V0:=κ (β w6 (.cells #[ι id] 3));have V1:=κ (Sw_below S6.out V0.out);have V2:Hid (Rd (w6.alloc (.cells #[ι id] 3)) (w6.alloc (.cells #[ι id] 3)).heap.size (some (α w6.heap.size 0)) [ι id]):=rd_new rfl;have V3:=κ V1.out.b.size
     go_wp2_with (at_builtin;go_loud (refine wpList_appRG (nm:=ni1) (show Hid _ from V1.out.ids) V2 HN1.out rfl _ _ _ rfl i0 (.int .i64 0) 8 Tryz.underlying23 hi hz0 hz1 hz2 rfl (by decide) rfl rfl (by simp) (by simp[Value.oneCell']) (by unfold maxLen;omega) (by omega) V3.out ?_);intro A6 c6 w7 hown1 hgr1)
     have S7:=κ (Sw_app V1.out hown1.out hgr1);rw[←HI2.out]at S7;have HN7:Hid (ni1=(swI ep (bk.op.take (i+1))).length):=by show _=_;rw[HI2.out,List.length_append,HN1.out,HNI.out];rfl
     clear hgr1 hown1 V0 V1 V2 V3 e0 e1 e2 e3 e4 e5 e6 e7 e8 e9 e10 S6 E6 HI2
     go_roundg g
     case measure=>omega
     case rel=>exact⟨i+1,A6,ni1,c6,by omega,rfl,by rw[Int.natCast_add];rfl,HN7,S7⟩
    ·have t2:decide (ep'≤ep)=false:=by simp only[decide_eq_false_iff_not];exact hep
     have hC:swC ep (gE bk.op i)=false:=by rw[←HE.out];unfold swC;simp[hep]
     have HO:=κ (swO_no ep bk.op i hio hC);have HI2:=κ (swI_succ ep bk.op i hio);rw[hC,if_neg (by decide),List.append_nil]at HI2;have S7:Hid (Sw w w5 gB gZ sh ca Ar (some (α go 0)) nr cr no co rl2 bk.rows (swO ep bk.op (i+1)) Ai ni ci (swI ep (bk.op.take (i+1)))):=by rw[HO.out,HI2.out];exact S5.out
     have HN7:Hid (ni=(swI ep (bk.op.take (i+1))).length):=by show _=_;rw[HI2.out];exact HNI.out
     clear hC HO HI2
     go_wp2_with fail
     go_roundg g
     case measure=>omega
     case rel=>exact⟨i+1,Ai,ni,ci,by omega,rfl,by rw[Int.natCast_add];rfl,HN7,S7⟩
   ·have t1:(st==1)=false:=by simp[hst]
    have hC:swC ep (gE bk.op i)=false:=by rw[←HE.out];unfold swC;simp[hst]
    have HO:=κ (swO_no ep bk.op i hio hC);have HI2:=κ (swI_succ ep bk.op i hio);rw[hC,if_neg (by decide),List.append_nil]at HI2;have S7:Hid (Sw w w5 gB gZ sh ca Ar (some (α go 0)) nr cr no co rl2 bk.rows (swO ep bk.op (i+1)) Ai ni ci (swI ep (bk.op.take (i+1)))):=by rw[HO.out,HI2.out];exact S5.out
    have HN7:Hid (ni=(swI ep (bk.op.take (i+1))).length):=by show _=_;rw[HI2.out];exact HNI.out
    clear hC HO HI2
    go_wp2_with fail
    go_roundg g
    case measure=>omega
    case rel=>exact⟨i+1,Ai,ni,ci,by omega,rfl,by rw[Int.natCast_add];rfl,HN7,S7⟩
  ·have t0:decide ((i:Int)<(no:Int))=false:=by simp;omega
   have hin:i=no:=by omega
   have hall:Hid (swO ep bk.op i=bk.op.map (swE ep)):=by show _=_;rw[hin,hno.out];exact swO_all _ _
   have hids:Hid (swI ep (bk.op.take i)=swI ep bk.op):=by show _=_;rw[hin,hno.out,List.take_length]
   have S9:=SWi.out;rw[hall.out,hids.out]at S9;rw[hids.out]at HNI;have F3:Blk (st4 wr gZ (ι sh) (ι ca) (.slice Ar nr cr) (.slice Ao no co)) gZ 75 (vB sh ca Ar nr cr Ao no co):=st4_blk S9.kR
   have hfin:MadeSw (sweepF bk ep) (swI ep bk.op) w (.returned (.tuple #[.agg (vB sh ca Ar nr cr Ao no co),.slice Ai ni ci])) (st4 wr gZ (ι sh) (ι ca) (.slice Ar nr cr) (.slice Ao no co)):=by
    have hbo:=Bo_st4 S9.bo S9.kR (by decide) (by decide) (by decide) (ι sh) (ι ca) (.slice Ar nr cr) (.slice Ao no co);have hsw:sweepF bk ep=⟨sh,ca,bk.rows,bk.op.map (swE ep)⟩:=by unfold sweepF;rw[hsh.out.1,hsh.out.2]
    rw[hsw];refine⟨Ar,Ao,cr,co,rl2,Ai,ci,?_,hbo.bm,Bo_fb hbo,Rd.of_own (own_st4 S9.ids S9.kR (by decide)),own_fresh S9.ids,st4_below S9.b hLR.out⟩;unfold bkA;simp[hnr.out,hno.out,HNI.out]
   have HF:=κ hfin;obtain⟨k0,k1,k2,k3⟩:=q4_of S9.kB;obtain⟨z0,z1,z2,z3,f0,f1,f2,f3⟩:=z4_of S9.kR;clear hfin S9 SWi hin
   go_wp2_with fail
   obtain⟨d0,d1,d2,d3⟩:=q4_of F3;clear F3;unfold st4 at d0 d1 d2 d3 HF;exact bodyPost_ret (v:= .tuple #[.agg #[ι sh,ι ca,.slice Ar nr cr,.slice Ao no co],.slice Ai ni ci]) (by simp[results,Tryz.results64,go_sem,d0,d1,d2,d3]) rfl HF.out
end Bkw
end Go.Proofs.YtfbajlcljfjbkaaGreat
