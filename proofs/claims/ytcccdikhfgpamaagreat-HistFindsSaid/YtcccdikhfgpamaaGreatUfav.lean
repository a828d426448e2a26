/- Texts side by side. -/
import Derived.Test.YtcccdikhfgpamaaGreatUfas
set_option linter.unusedVariables false
set_option linter.unusedSimpArgs false
set_option maxRecDepth 100000
set_option maxHeartbeats 16000000
namespace Go.Proofs.YtcccdikhfgpamaaGreat
open Kap Abv Go.ChangeShapes Go.WideShapes Go.ChangeAt Go.RowKit Mem Tre Ref3 Law3 Crd CrdB CrdC Rr4 Bkp Bks Bkf Bcl Dlk Stk Apt Bko Bku Bka Bkc Bkq
namespace Mdl
open Fix3 Cfg Cpl Lim Cfr Mdp Mdz Mds Mdo Lat
open Rul1 hiding below_step
def lmtF(p:Pm)(n x:Int):Pm×(Int×Int×List (Int×Int)):=
 if Cpl.limF p.cl n x≠0 then (p,(Cpl.limF p.cl n x,0,[])) else ({p with cl:=Cpl.limL p.cl n x},(0,0,[]))
variable {c n x:Int} {p:Pm}
theorem lmt_no(hc:c=Cpl.limF p.cl n x)(h:c≠0):lmtF p n x=(p,(c,0,[])):=by
 unfold lmtF;rw[←hc,if_pos h]
theorem lmt_yes{l:List (Int×Int)}(hc:c=Cpl.limF p.cl n x)(hl:l=Cpl.limL p.cl n x)(h:c=0):lmtF p n x=({p with cl:=l},(0,0,[])):=by
 unfold lmtF;rw[←hc,if_neg (by rw[h];decide),←hl]
theorem mlimit_any(base g m:Nat)(q:Mq)(i x:Int)(w:World)(h:Hid (Mm base w g q))(hv:Hid (Vq m q))(hm:m≤900)(hi:inI i)(hx0: -9223372036854775808≤x)(hx1:x≤9223372036854775807):
  Calls Tryz.prog 61 #[.pointer (some ⟨g,0,none⟩),.int .i64 i,.int .i64 x] w (MadeDo base g q (lmtF (plO q) i x).1 (lmtF (plO q) i x).2.1 (lmtF (plO q) i x).2.2.1 (lmtF (plO q) i x).2.2.2 w):=by
 obtain⟨F,G,H,I,A,B,C,o,r,s,c,d,f,P,Q,R,Ab,j,J,S,Y,Z,n1,b,d1,d2,V,t,K,a⟩:=q;obtain⟨v1,v2,aC,v3,v4,v5,v6,v7,v8,v9,an⟩:=hv.o;obtain⟨l1,l2,l3,l4,l5,l6⟩:=(⟨h.o.l1,h.o.l2,h.o.l3,h.o.l4,h.o.l5,h.o.l6⟩:o=P.length∧r=Q.length∧s=R.length∧j=S.length∧n1=V.length∧b=t.length);have L1:=κ l1;have L2:=κ l2;have L3:=κ l3;have L4:=κ l4;have L5:=κ l5;have L6:=κ l6;have V4:=κ v4;have V5:=κ v5;have V7:=κ v7;have V9:=κ v9;have aD:=κ an;simp only at v1 v2 aC v3 v6 v8;obtain⟨k,ao⟩:=own_at h.o.row (by show 0<j;simp only at v7;omega);simp only at ao;subst ao;have aK:j≤1000∧1≤j:=by simp only at v7;omega
 clear l1 l2 l3 l4 l5 l6 v4 v5 v7 v9 an;have U0:=κ (β w (.cells (vI 0 0) 74));have Z0:=κ (Blk.fresh w 74 (vI 0 0));have M0:=κ (Mm_below h.o U0.o);have MZ:=κ (Mz_of h.o τ)
 go_enter Tryz.func61,Tryz.ntmps61
 go_upto_region 1 with fail
 generalize ap:w.heap.size=gZ at Z0 MZ ⊢;have aL:=κ ap;have y:Hid (w.heap.size≤gZ):=by show _≤_;omega
 clear ap;generalize (w.alloc (.cells (vI 0 0) 74))=w0 at Z0 U0 M0 ⊢;have K0:Hid (Blk w0 g 144 (vQ F G H I A o c B r d C s f (some (α k 0)) j J Y n1 d1 Z b d2 K a)):=M0.o.blk;obtain⟨k0,k1,k2,k3,k4,k5,k6,k7,k8,k9,ad,ae,f0,f1,f2,f3,f4,f5,f6,f7,f8,f9,af,ag⟩:=q12_of K0.o;obtain⟨T,ah⟩:=ν (Cpl.limF V i x);obtain⟨CL,ai⟩:=ν (Cpl.limL V i x);obtain⟨nC,aj⟩:=ν CL.length;have RS:=limit_fresh Y Z d1 d2 V t i x w0 (κ M0.o.cn) (κ M0.o.cr) aD.o hi hx0 hx1;unfold MadeLimF at RS;rw[←ah,←ai,←L5.o,←L6.o]at RS;simp only[←aj]at RS;have aE:=κ aj;have aq:=κ ah;have aF:=κ ai;clear ah ai aj
 go_wp2_with fail
 refine RS.mono ?_;rintro e w2 ⟨E,L,U,W,rfl,ar,au,ak,av,aw⟩;have U3:=β w2 (.cells (vS E nC L U b W) 142);have S3:=κ (Blk.fresh w2 142 (vS E nC L U b W));have X:=κ (CrdB.below_step ak U3);have N5:=θ ar U3;have R5:=η au U3;have F5:=κ av;have F6:=κ aw;have ax:=κ ak.size;clear ar au ak av aw U3 RS
 go_upto_region 2 with fail
 clear k0 k1 k2 k3 k4 k5 k6 k7 k8 k9 ad ae f0 f1 f2 f3 f4 f5 f6 f7 f8 f9 af ag K0;obtain⟨gS,aa⟩:=ν w2.heap.size;have S7:=κ (ζ aa S3.o);have ax:Hid (w0.heap.size≤gS):=by rw[aa];exact ax.o
 simp only[←aa];clear aa S3;generalize w2.alloc (.cells (vS E nC L U b W) 142)=w3 at X N5 R5 S7 ⊢;by_cases hcc0:T=0
 case neg=>
  have t1:(T != 0)=true:=by simp[hcc0]
  go_upto_region 3 with fail
  have aG:Hid (lmtF (plO ⟨F,G,H,I,A,B,C,o,r,s,c,d,f,P,Q,R,some (α k 0),j,J,S,Y,Z,n1,b,d1,d2,V,t,K,a⟩) i x=((plO ⟨F,G,H,I,A,B,C,o,r,s,c,d,f,P,Q,R,some (α k 0),j,J,S,Y,Z,n1,b,d1,d2,V,t,K,a⟩),(T,0,[]))):=lmt_no aq.o hcc0
  go_wp2_with fail
  refine(refused_any T _).mono ?_;rintro e wR ⟨rfl,ay⟩;have am:=κ (CrdB.below_step X.o ay);have MR:=κ (Mm_below M0.o am.o);have ZR:=κ (Blk.below' Z0.o am.o);have UR:Hid (Kp w wR g (some (α k 0))):=Kp_of_below (CrdB.below_step U0.o am.o);clear ay;obtain⟨z0,z1,z2,z3⟩:=q2b ZR.o;have zx:=χ ((blk_st ZR.o 0 (ι T)).cell 1);have F3:Blk (st2 wR gZ (ι T) (ι 0)) gZ 74 (vI T 0):=st2_blk ZR.o
  have l:MadeDo base g ⟨F,G,H,I,A,B,C,o,r,s,c,d,f,P,Q,R,some (α k 0),j,J,S,Y,Z,n1,b,d1,d2,V,t,K,a⟩ (plO ⟨F,G,H,I,A,B,C,o,r,s,c,d,f,P,Q,R,some (α k 0),j,J,S,Y,Z,n1,b,d1,d2,V,t,K,a⟩) T 0 [] w (.returned (.tuple #[.agg (vI T 0),.slice none 0 0])) (st2 wR gZ (ι T) (ι 0)):=by
   unfold st2;refine madeDo_no (q:=⟨F,G,H,I,A,B,C,o,r,s,c,d,f,P,Q,R,some (α k 0),j,J,S,Y,Z,n1,b,d1,d2,V,t,K,a⟩) (Mm_setz (Mm_setz MR.o MZ.o ZR.o (by decide) 0 _) MZ.o (blk_st ZR.o 0 _) (by decide) 1 _) rfl rfl ?_ (fun z _ h=>Mz_same h);exact Kp_past (Kp_past UR.o y.o 0 _) y.o 1 _
  have HF:=κ l;clear l
  go_wp2_with fail
  obtain⟨e0,e1,_,_⟩:=q2b F3;clear F3;unfold st2 at e0 e1 HF;exact bodyPost_ret (v:= .tuple #[.agg #[ι T,ι 0],.slice none 0 0]) (by simp[results,Tryz.results61,go_sem,e0,e1]) rfl (by first|exact HF.o|(rw[aG.o];exact HF.o))
 case pos=>
  have t1:(T != 0)=false:=by simp[hcc0]
  have aH:=κ (lmt_yes (p:=(plO ⟨F,G,H,I,A,B,C,o,r,s,c,d,f,P,Q,R,some (α k 0),j,J,S,Y,Z,n1,b,d1,d2,V,t,K,a⟩)) aq.o aF.o hcc0);clear hcc0
  go_upto_region 4 with fail
  have ab:=κ (Mm_lt M0.o);have M3:=κ (Mm_below M0.o X.o);have K3:Hid (Blk w3 g 144 (vQ F G H I A o c B r d C s f (some (α k 0)) j J Y n1 d1 Z b d2 K a)):=M3.o.blk;have Z3:=κ (Blk.below' Z0.o X.o);have aI:Hid (Far g (some (α k 0)) E (nds CL)):=Far_new (base:=w0.heap.size) ab.o.1 ab.o.2 F5.o;have aJ:Hid (Far g (some (α k 0)) U (ints t)):=Far_new (base:=w0.heap.size) ab.o.1 ab.o.2 F6.o;have az:Hid (Mm base ((w3.setCell (α g 8) (.slice E nC L)).setCell (α g 9) (.slice U b W)) g ⟨F,G,H,I,A,B,C,o,r,s,c,d,f,P,Q,R,some (α k 0),j,J,S,E,U,nC,b,L,W,CL,t,K,a⟩):=Mm_cr M3.o N5.o R5.o aI.o aJ.o aE.o L6.o;have O:Hid (Blk ((w3.setCell (α g 8) (.slice E nC L)).setCell (α g 9) (.slice U b W)) gZ 74 (vI 0 0)):=far_st (far_st Z3.o MZ.o.ne _) MZ.o.ne _;have aA:Hid (Kp w ((w3.setCell (α g 8) (.slice E nC L)).setCell (α g 9) (.slice U b W)) g (some (α k 0))):=Kp_setg (Kp_setg (Kp_of_below (CrdB.below_step U0.o X.o)) _ _) _ _;have aB:Hid (Mz gZ g ⟨F,G,H,I,A,B,C,o,r,s,c,d,f,P,Q,R,some (α k 0),j,J,S,E,U,nC,b,L,W,CL,t,K,a⟩):=⟨MZ.o.ne,MZ.o.z1,MZ.o.z2,MZ.o.z3,FarE_new Z0.o.lt F5.o,FarE_new Z0.o.lt F6.o,MZ.o.zx⟩;obtain⟨k0,k1,k2,k3,k4,k5,k6,k7,k8,k9,ad,ae,f0,f1,f2,f3,f4,f5,f6,f7,f8,f9,af,ag⟩:=q12_of K3.o;obtain⟨s0,s1,s2,s3⟩:=q2b S7.o;have x9:=χ ((blk_st K3.o 8 (.slice E nC L)).cell 9);have y9:=(blk_st K3.o 8 (.slice E nC L)).thaw 9
  go_upto_region 5 with fail
  clear k0 k1 k2 k3 k4 k5 k6 k7 k8 k9 ad ae f0 f1 f2 f3 f4 f5 f6 f7 f8 f9 af ag x9 y9 s0 s1 s2 s3 K3 M3 Z3;generalize ((w3.setCell (α g 8) (.slice E nC L)).setCell (α g 9) (.slice U b W))=w9 at az O aA ⊢;obtain⟨z0,z1,z2,z3⟩:=q2b O.o;have zx:=χ ((blk_st O.o 0 (ι 0)).cell 1);have F3:Blk (st2 w9 gZ (ι 0) (ι 0)) gZ 74 (vI 0 0):=st2_blk O.o
  have l:MadeDo base g ⟨F,G,H,I,A,B,C,o,r,s,c,d,f,P,Q,R,some (α k 0),j,J,S,Y,Z,n1,b,d1,d2,V,t,K,a⟩ (plO ⟨F,G,H,I,A,B,C,o,r,s,c,d,f,P,Q,R,some (α k 0),j,J,S,E,U,nC,b,L,W,CL,t,K,a⟩) 0 0 [] w (.returned (.tuple #[.agg (vI 0 0),.slice none 0 0])) (st2 w9 gZ (ι 0) (ι 0)):=by
   unfold st2;refine madeDo_no (q:=⟨F,G,H,I,A,B,C,o,r,s,c,d,f,P,Q,R,some (α k 0),j,J,S,E,U,nC,b,L,W,CL,t,K,a⟩) (Mm_setz (Mm_setz az.o aB.o O.o (by decide) 0 _) aB.o (blk_st O.o 0 _) (by decide) 1 _) rfl rfl ?_ (fun z hz h=>⟨h.ne,h.z1,h.z2,h.z3,FarE_new (Nat.lt_of_lt_of_le hz U0.o.size) F5.o,FarE_new (Nat.lt_of_lt_of_le hz U0.o.size) F6.o,h.zx⟩);exact Kp_past (Kp_past aA.o y.o 0 _) y.o 1 _
  have HF:=κ l;clear l
  go_wp2_with fail
  obtain⟨e0,e1,_,_⟩:=q2b F3;clear F3;unfold st2 at e0 e1 HF;exact bodyPost_ret (v:= .tuple #[.agg #[ι 0,ι 0],.slice none 0 0]) (by simp[results,Tryz.results61,go_sem,e0,e1]) rfl (by first|exact HF.o|(rw[aH.o];exact HF.o))
end Mdl
namespace Bkw
variable {b:Bk} {ca sh:Int} {op:List En} {ids:List Int} {rl:List Rc} {rows:List Ro} {base c ci co cr d gB gZ ni no nr:Nat} {A Ai Ao Ar C:Option Addr} {w w' w0:World}
theorem infoN:(Tryz.prog.info? 3).map (fun i=>(i.zero,i.size,i.bytes))=some (some (.int .i64 0),1,8):=by kernel_rfl
def swC(ep:Int)(e:En):Bool:=decide (e.st=1)&&decide (e.ep≤ep)
def swE(ep:Int)(e:En):En:=if swC ep e=true then setS e 2 else e
def swI(ep:Int)(l:List En):List Int:=(l.filter (swC ep)).map En.id
def sweepF(b:Bk)(ep:Int):Bk:=⟨b.sh,b.ca,b.rows,b.op.map (swE ep)⟩
def swO(ep:Int)(op:List En)(i:Nat):List En:=(op.take i).map (swE ep)++op.drop i
theorem swO_len(ep:Int)(op:List En)(i:Nat):(swO ep op i).length=op.length:=by
 unfold swO;rw[List.length_append,List.length_map,List.length_take,List.length_drop];omega
theorem swO_get(ep:Int)(op:List En)(i:Nat)(hi:i<op.length):gE (swO ep op i) i=gE op i:=by
 unfold swO gE;rw[List.getD,List.getElem?_append_right (by rw[List.length_map,List.length_take];omega),List.length_map,List.length_take,List.getElem?_drop];simp only[List.getD]
 congr 2
 omega
theorem swO_succ(ep:Int)(op:List En)(i:Nat)(hi:i<op.length):swO ep op (i+1)=(op.take i).map (swE ep)++swE ep (gE op i) :: op.drop (i+1):=by
 unfold swO
 have e:op.take (i+1)=op.take i++[gE op i]:=by
  rw[List.take_succ_eq_append_getElem hi];simp[gE,hi]
 rw[e,List.map_append,List.append_assoc]
 rfl
theorem swO_no(ep:Int)(op:List En)(i:Nat)(hi:i<op.length)(h:swC ep (gE op i)=false):swO ep op (i+1)=swO ep op i:=by
 rw[swO_succ _ _ _ hi];unfold swO swE;rw[h,if_neg (by decide)]
 congr 1
 rw[List.drop_eq_getElem_cons hi];simp[gE,hi]
theorem swO_yes(ep:Int)(op:List En)(i:Nat)(hi:i<op.length)(h:swC ep (gE op i)=true):swO ep op (i+1)=(swO ep op i).set i (setS (gE op i) 2):=by
 rw[swO_succ _ _ _ hi];have a:swE ep (gE op i)=setS (gE op i) 2:=by unfold swE;rw[if_pos h]
 rw[a];unfold swO;rw[List.set_append_right _ _ (by rw[List.length_map,List.length_take];omega),List.length_map,List.length_take,show i-min i op.length=0 by omega,List.drop_eq_getElem_cons hi]
 rfl
theorem swI_succ(ep:Int)(op:List En)(i:Nat)(hi:i<op.length):swI ep (op.take (i+1))=swI ep (op.take i)++(if swC ep (gE op i)=true then [(gE op i).id] else []):=by
 have e:op.take (i+1)=op.take i++[gE op i]:=by
  rw[List.take_succ_eq_append_getElem hi];simp[gE,hi]
 unfold swI;rw[e,List.filter_append,List.map_append]
 congr 1
 split
 ·rename_i h;simp[h]
 ·rename_i h;simp[h]
theorem swO_all(ep:Int)(op:List En):swO ep op op.length=op.map (swE ep):=by simp[swO]
theorem swI_le(ep:Int)(l:List En):(swI ep l).length≤l.length:=by
 unfold swI;rw[List.length_map];exact List.length_filter_le _ _
structure Sw(w0 w:World)(gB gZ:Nat)(sh ca:Int)(Ar Ao:Option Addr)(nr cr no co:Nat)(rl:List Rc)(rows:List Ro)(op:List En)(Ai:Option Addr)(ni ci:Nat)(ids:List Int):Prop where
 kB:Blk w gB 181 #[.int .i64 sh,.int .i64 ca,.slice Ar nr cr,.slice Ao no co]
 kR:Blk w gZ 181 #[.int .i64 0,.int .i64 0,.slice none 0 0,.slice none 0 0]
 bo:Bo w0.heap.size w Ar Ao cr co rl ⟨sh,ca,rows,op⟩
 ids:w.ownsRow w0.heap.size 3 1 (.slice Ai ni ci) ni (ints ids)
 b:Below w0.heap.size w0 w
theorem Bo_below(h:Bo base w A C c d rl b)(hb:Below w.heap.size w w'):Bo base w' A C c d rl b:=
 ⟨own_below h.r hb,own_below h.o hb,h.e,fun k a=>own_below (h.own k a) hb,h.ap⟩
theorem Bo_grown(h:Bo base w A C c d rl b){b2 s2 n2:Nat}{e2:TypeId}{v2:Value}{x2:List Value}(k:w.ownsRow b2 e2 s2 v2 n2 x2)(h1:243≠e2)(h2:203≠e2)(h3:2≠e2)(hg:w.grownBy w' v2.ownBlock):Bo base w' A C c d rl b:=
 ⟨own_grown h.r k h1 hg,own_grown h.o k h2 hg,h.e,fun j a=>own_grown (h.own j a) k h3 hg,h.ap⟩
theorem Sw_below(h:Sw w0 w gB gZ sh ca Ar Ao nr cr no co rl rows op Ai ni ci ids)(hb:Below w.heap.size w w'):Sw w0 w' gB gZ sh ca Ar Ao nr cr no co rl rows op Ai ni ci ids:=
 ⟨Blk.below' h.kB hb,Blk.below' h.kR hb,Bo_below h.bo hb,own_below h.ids hb,below_step h.b hb⟩
theorem Sw_set{go:Nat}(h:Sw w0 w gB gZ sh ca Ar (some ⟨go,0,none⟩) nr cr no co rl rows op Ai ni ci ids)(i:Nat)(hi:i<op.length):
  Sw w0 (w.setCell ⟨go,i*11+9,none⟩ (.int .i64 2)) gB gZ sh ca Ar (some ⟨go,0,none⟩) nr cr no co rl rows (op.set i (setS (gE op i) 2)) Ai ni ci ids:=by
 obtain⟨e,a⟩:=World.ownsRow.stored h.bo.o (i*11+9) (.int .i64 2);exact⟨blk_own_grown h.kB h.bo.o (by decide) a,blk_own_grown h.kR h.bo.o (by decide) a,Bo_setE h.bo (i*11+9) _ _ (by simp) (ens_setS _ _ hi _),own_grown h.ids h.bo.o (by decide) a,h.b.setCell (p:=(α go (i*11+9))) (own_fresh h.bo.o (α go 0) rfl) _⟩
theorem Sw_app(h:Sw w0 w gB gZ sh ca Ar Ao nr cr no co rl rows op Ai ni ci ids){A':Option Addr}{n' c':Nat}{x:Int}
  (ho:w'.ownsRow w0.heap.size 3 1 (.slice A' n' c') n' (ints ids++[.int .i64 x]))(hg:w.grownBy w' (Value.slice Ai ni ci).ownBlock):Sw w0 w' gB gZ sh ca Ar Ao nr cr no co rl rows op A' n' c' (ids++[x]):=
 ⟨blk_own_grown h.kB h.ids (by decide) hg,blk_own_grown h.kR h.ids (by decide) hg,Bo_grown h.bo h.ids (by decide) (by decide) (by decide) hg,by rw[ints_snoc];exact ho,grown_below h.b h.ids hg τ h.b.size⟩
def MadeSw(b:Bk)(ids:List Int)(w:World)(e:Ending)(w':World):Prop:=
 ∃A C c d rl Ai ci,e= .returned (.tuple #[bkA A C c d b,.slice Ai ids.length ci])∧Bm w' A C rl b∧Fb w.heap.size A C rl∧Ris w' w'.heap.size Ai ids∧(∀a,Ai=some a→w.heap.size≤a.block)∧Below w.heap.size w w'
theorem sweep_any(sh ca:Int)(A C:Option Addr)(nr no c d:Nat)(rl:List Rc)(bk:Bk)(ep:Int)(w:World)(hsh:Hid (sh=bk.sh∧ca=bk.ca))(hnr:Hid (nr=bk.rows.length))(hno:Hid (no=bk.op.length))(hm:Hid (Bm w A C rl bk))(hf:Hid (FewB bk)):
  Calls Tryz.prog 87 #[.agg #[.int .i64 sh,.int .i64 ca,.slice A nr c,.slice C no d],.int .i64 ep] w (MadeSw (sweepF bk ep) (swI ep bk.op) w):=by
 obtain⟨i0,hi,am,an,ao⟩:=info_parts infoN;have aE:nr≤1000:=by rw[hnr.o];exact hf.o.rl
 have aF:no≤1000:=by rw[hno.o];exact hf.o.ol
 have b0:=κ (γ w (.cells (vB sh ca A nr c C no d) 181) (.cells (vB 0 0 none 0 0 none 0 0) 181));have K0:=κ ((Blk.fresh w 181 (vB sh ca A nr c C no d)).alloc (.cells (vB 0 0 none 0 0 none 0 0) 181));have R0:=κ (δ (w.alloc (.cells (vB sh ca A nr c C no d) 181)) 181 (vB 0 0 none 0 0 none 0 0) (w.heap.size+1))
 go_enter Tryz.func87,Tryz.ntmps87
 go_upto_region 1 with fail
 generalize ((w.alloc (.cells (vB sh ca A nr c C no d) 181)).alloc (.cells (vB 0 0 none 0 0 none 0 0) 181))=w0 at b0 K0 R0 ⊢;obtain⟨gB,aa⟩:=ν w.heap.size;obtain⟨gZ,ab⟩:=ν (w.heap.size+1);have aq:Hid (gZ≠gB):=by show _≠_;omega
 have ar:Hid (w.heap.size≤gB):=by show _≤_;omega
 have au:Hid (w.heap.size≤gZ):=by show _≤_;omega
 have J1:=κ (ζ aa K0.o);have J3:=κ (ζ ab R0.o);simp only[←ab];simp only[←aa];clear aa ab K0 R0;obtain⟨P,Q,R,S⟩:=q4_of J1.o;have HM:=κ (hm.o.below b0.o)
 go_wp2_with fail
 refine(own_any sh ca A C nr no c d rl bk _ hsh hnr hno HM hf).mono ?_;rintro e w2 ⟨Ar,Ao,cr,co,t,he,G,O⟩;have ag:bkA Ar Ao cr co bk= .agg (vB sh ca Ar nr cr Ao no co):=by unfold bkA;rw[hnr.o,hno.o,hsh.o.1,hsh.o.2]
 rw[ag]at he;subst he;have ah:=κ (Bo_mono G b0.o.size);have ai:=κ (below_step b0.o O);have L1:=κ (Blk.below' J1.o O);have L3:=κ (Blk.below' J3.o O);clear P Q R S O ag G J1 J3 HM b0;obtain⟨P,Q,R,S,f0,f1,f2,f3⟩:=z4_of L1.o;have B3:Hid (Bo w.heap.size ((((w2.setCell (α gB 0) (ι sh)).setCell (α gB 1) (ι ca)).setCell (α gB 2) (.slice Ar nr cr)).setCell (α gB 3) (.slice Ao no co)) Ar Ao cr co t bk):=Bo_st4 ah.o L1.o (by decide) (by decide) (by decide) _ _ _ _;have P1:Hid (Blk ((((w2.setCell (α gB 0) (ι sh)).setCell (α gB 1) (ι ca)).setCell (α gB 2) (.slice Ar nr cr)).setCell (α gB 3) (.slice Ao no co)) gB 181 (vB sh ca Ar nr cr Ao no co)):=st4_blk L1.o;have P3:Hid (Blk ((((w2.setCell (α gB 0) (ι sh)).setCell (α gB 1) (ι ca)).setCell (α gB 2) (.slice Ar nr cr)).setCell (α gB 3) (.slice Ao no co)) gZ 181 (vB 0 0 none 0 0 none 0 0)):=st4_far L3.o aq.o;have ac:Hid (Below w.heap.size w ((((w2.setCell (α gB 0) (ι sh)).setCell (α gB 1) (ι ca)).setCell (α gB 2) (.slice Ar nr cr)).setCell (α gB 3) (.slice Ao no co))):=st4_below ai.o ar.o
 go_upto_region 3 with fail
 clear P Q R S f0 f1 f2 f3 L1 L3 ah ai;generalize ((((w2.setCell (α gB 0) (ι sh)).setCell (α gB 1) (ι ca)).setCell (α gB 2) (.slice Ar nr cr)).setCell (α gB 3) (.slice Ao no co))=w3 at B3 P1 P3 ac ⊢;have aj:Hid (Sw w w3 gB gZ sh ca Ar Ao nr cr no co t bk.rows (swO ep bk.op 0) none 0 0 (swI ep (bk.op.take 0))):=⟨P1.o,P3.o,by have h:=B3.o;exact⟨h.r,h.o,h.e,h.own,h.ap⟩,World.ownsRow_nil _ _ _ _,ac.o⟩;obtain⟨P,Q,R,S⟩:=q4_of P1.o
 go_upto_region 4 with fail
 clear P Q R S B3 P1 P3 ac
 go_wp2_with fail
 go_loopg [6,14] no (fun g s6 av w'=> ∃(i:Nat) (Ai:Option Addr) (ni ci:Nat),i+g=no∧s6= .slice Ai ni ci∧av= ι i∧Hid (ni=(swI ep (bk.op.take i)).length)∧Hid (Sw w w' gB gZ sh ca Ar Ao nr cr no co t bk.rows (swO ep bk.op i) Ai ni ci (swI ep (bk.op.take i))))
 case atStart=>exact⟨0,none,0,0,by omega,rfl,rfl,rfl,aj⟩
 case round=>
  clear aj;obtain⟨i,Ai,ni,ci,aG,rfl,rfl,F,y⟩:=hrel;by_cases hlt:i<no
  ·obtain⟨g,rfl⟩: ∃g,gk=g+1:=⟨gk-1,by omega⟩;have t0:decide ((i:Int)<(no:Int))=true:=by simp;omega
   have l:i<bk.op.length:=by rw[←hno.o];exact hlt
   have aH:=κ l;have aw:(swO ep bk.op i).length=bk.op.length:=swO_len _ _ _;obtain⟨T,ax⟩:=own_at y.o.bo.o (by show 0<(swO ep bk.op i).length;omega);subst ax;obtain⟨_,_,ay,_,m,k⟩:=own_room y.o.bo.o;have aI:no≤co:=by rw[hno.o,←aw];exact ay
   have z:=fun j (hj:j<11) v hv=>k (i*11+j) v ((ens_get (swO ep bk.op i) i j (by omega) hj).trans hv)
   rw[swO_get _ _ _ l]at z;obtain⟨E,hE⟩:=ν (gE bk.op i);rw[←hE]at z;have HE:=κ hE;clear hE;obtain⟨L,⟨a,s,x,p,q',n,tt⟩,lf,U,q⟩:=E;have c0:=z 0 (by decide) _ rfl;have c1:=z 1 (by decide) _ rfl;have c2:=z 2 (by decide) _ rfl;have c3:=z 3 (by decide) _ rfl;have c4:=z 4 (by decide) _ rfl;have c5:=z 5 (by decide) _ rfl;have c6:=z 6 (by decide) _ rfl;have c7:=z 7 (by decide) _ rfl;have c8:=z 8 (by decide) _ rfl;have c9:=z 9 (by decide) _ rfl;have az:=z 10 (by decide) _ rfl;simp only[Nat.add_zero]at c0;clear z k m;have U5:=κ (β wr (.cells (vE L a s x p q' n tt lf U q) 203));have E5:=κ (Blk.fresh wr 203 (vE L a s x p q' n tt lf U q));have S5:=κ (Sw_below y.o U5.o);have ak:Hid (T≠wr.heap.size):=by show _≠_;have:=World.ownsRow.lt y.o.bo.o T rfl;omega
   go_upto_region 6 with fail
   clear c0 c1 c2 c3 c4 c5 c6 c7 c8 c9 az U5 y;generalize wr.alloc (.cells (vE L a s x p q' n tt lf U q) 203)=w5 at E5 S5 ⊢;generalize wr.heap.size=aA at E5 ak ⊢;obtain⟨e0,e1,e2,e3,e4,e5,e6,e7,e8,e9,ad⟩:=q11_of E5.o;by_cases hst:U=1
   ·have t1:(U==1)=true:=by simp[hst]
    by_cases hep:q≤ep
    ·have t2:decide (q≤ep)=true:=by simp[hep]
     have H:swC ep (gE bk.op i)=true:=by rw[←HE.o];unfold swC;simp[hst,hep]
     have V:=κ (swO_yes ep bk.op i l H);have f:=κ (swI_succ ep bk.op i l);rw[H,if_pos rfl,←HE.o]at f;have aB:Hid ((⟨L,⟨a,s,x,p,q',n,tt⟩,lf,U,q⟩:En).id=L):=rfl;rw[aB.o]at f;have aJ:ni≤1000:=by rw[F.o];have:=swI_le ep (bk.op.take i);rw[List.length_take]at this;omega
     clear hst H;obtain⟨P,Q,R,S⟩:=q4_of S5.o.kB;obtain⟨_,_,_,_,m,k⟩:=own_room S5.o.bo.o;have d9:=k (i*11+9) _ (ens_get (swO ep bk.op i) i 9 (by omega) (by decide));have g9:=(m (i*11+9) (by omega)).2;clear m k
     have S6:Hid (Sw w (w5.setCell (α T (i*11+9)) (ι 2)) gB gZ sh ca Ar (some (α T 0)) nr cr no co t bk.rows (swO ep bk.op (i+1)) Ai ni ci (swI ep (bk.op.take i))):=by
      rw[V.o,←swO_get ep bk.op i l];exact Sw_set S5.o i (by omega)
     have E6:Hid (Blk (w5.setCell (α T (i*11+9)) (ι 2)) aA 203 (vE L a s x p q' n tt lf U q)):=far_st E5.o (fun e=>ak.o e.symm) _
     go_upto_region 8 with fail
     clear P Q R S d9 g9 e0 e1 e2 e3 e4 e5 e6 e7 e8 e9 ad E5 S5 V;generalize w5.setCell (α T (i*11+9)) (ι 2)=w6 at S6 E6 ⊢;obtain⟨e0,e1,e2,e3,e4,e5,e6,e7,e8,e9,ad⟩:=q11_of E6.o;obtain⟨ae,W⟩:=ν (ni+1);have al:=κ W;clear W;have V0:=κ (β w6 (.cells #[ι L] 3));have V1:=κ (Sw_below S6.o V0.o);have V2:Hid (Rd (w6.alloc (.cells #[ι L] 3)) (w6.alloc (.cells #[ι L] 3)).heap.size (some (α w6.heap.size 0)) [ι L]):=rd_new rfl;have V3:=κ V1.o.b.size
     go_wp2_with (at_builtin;go_loud (refine wpList_appRG (nm:=ae) (show Hid _ from V1.o.ids) V2 al.o rfl _ _ _ rfl i0 (.int .i64 0) 8 Tryz.underlying23 hi am an ao rfl (by decide) rfl rfl (by simp) (by simp[Value.oneCell']) (by unfold maxLen;omega) (by omega) V3.o ?_);intro A6 c6 w7 I X)
     have S7:=κ (Sw_app V1.o I.o X);rw[←f.o]at S7;have J:Hid (ae=(swI ep (bk.op.take (i+1))).length):=by show _=_;rw[f.o,List.length_append,al.o,F.o];rfl
     clear X I V0 V1 V2 V3 e0 e1 e2 e3 e4 e5 e6 e7 e8 e9 ad S6 E6 f
     go_roundg g
     case measure=>omega
     case rel=>exact⟨i+1,A6,ae,c6,by omega,rfl,by rw[Int.natCast_add];rfl,J,S7⟩
    ·have t2:decide (q≤ep)=false:=by simp only[decide_eq_false_iff_not];exact hep
     have H:swC ep (gE bk.op i)=false:=by rw[←HE.o];unfold swC;simp[hep]
     have V:=κ (swO_no ep bk.op i l H);have f:=κ (swI_succ ep bk.op i l);rw[H,if_neg (by decide),List.append_nil]at f;have S7:Hid (Sw w w5 gB gZ sh ca Ar (some (α T 0)) nr cr no co t bk.rows (swO ep bk.op (i+1)) Ai ni ci (swI ep (bk.op.take (i+1)))):=by rw[V.o,f.o];exact S5.o
     have J:Hid (ni=(swI ep (bk.op.take (i+1))).length):=by show _=_;rw[f.o];exact F.o
     clear H V f
     go_wp2_with fail
     go_roundg g
     case measure=>omega
     case rel=>exact⟨i+1,Ai,ni,ci,by omega,rfl,by rw[Int.natCast_add];rfl,J,S7⟩
   ·have t1:(U==1)=false:=by simp[hst]
    have H:swC ep (gE bk.op i)=false:=by rw[←HE.o];unfold swC;simp[hst]
    have V:=κ (swO_no ep bk.op i l H);have f:=κ (swI_succ ep bk.op i l);rw[H,if_neg (by decide),List.append_nil]at f;have S7:Hid (Sw w w5 gB gZ sh ca Ar (some (α T 0)) nr cr no co t bk.rows (swO ep bk.op (i+1)) Ai ni ci (swI ep (bk.op.take (i+1)))):=by rw[V.o,f.o];exact S5.o
    have J:Hid (ni=(swI ep (bk.op.take (i+1))).length):=by show _=_;rw[f.o];exact F.o
    clear H V f
    go_wp2_with fail
    go_roundg g
    case measure=>omega
    case rel=>exact⟨i+1,Ai,ni,ci,by omega,rfl,by rw[Int.natCast_add];rfl,J,S7⟩
  ·have t0:decide ((i:Int)<(no:Int))=false:=by simp;omega
   have af:i=no:=by omega
   have aC:Hid (swO ep bk.op i=bk.op.map (swE ep)):=by show _=_;rw[af,hno.o];exact swO_all _ _
   have Y:Hid (swI ep (bk.op.take i)=swI ep bk.op):=by show _=_;rw[af,hno.o,List.take_length]
   have K:=y.o;rw[aC.o,Y.o]at K;rw[Y.o]at F;have F3:Blk (st4 wr gZ (ι sh) (ι ca) (.slice Ar nr cr) (.slice Ao no co)) gZ 181 (vB sh ca Ar nr cr Ao no co):=st4_blk K.kR
   have Z:MadeSw (sweepF bk ep) (swI ep bk.op) w (.returned (.tuple #[.agg (vB sh ca Ar nr cr Ao no co),.slice Ai ni ci])) (st4 wr gZ (ι sh) (ι ca) (.slice Ar nr cr) (.slice Ao no co)):=by
    have G:=Bo_st4 K.bo K.kR (by decide) (by decide) (by decide) (ι sh) (ι ca) (.slice Ar nr cr) (.slice Ao no co);have aD:sweepF bk ep=⟨sh,ca,bk.rows,bk.op.map (swE ep)⟩:=by unfold sweepF;rw[hsh.o.1,hsh.o.2]
    rw[aD];refine⟨Ar,Ao,cr,co,t,Ai,ci,?_,G.bm,Bo_fb G,Rd.of_own (own_st4 K.ids K.kR (by decide)),own_fresh K.ids,st4_below K.b au.o⟩;unfold bkA;simp[hnr.o,hno.o,F.o]
   have HF:=κ Z;obtain⟨P,Q,R,S⟩:=q4_of K.kB;obtain⟨z0,z1,z2,z3,f0,f1,f2,f3⟩:=z4_of K.kR;clear Z K y af
   go_wp2_with fail
   obtain⟨d0,d1,d2,d3⟩:=q4_of F3;clear F3;unfold st4 at d0 d1 d2 d3 HF;exact bodyPost_ret (v:= .tuple #[.agg #[ι sh,ι ca,.slice Ar nr cr,.slice Ao no co],.slice Ai ni ci]) (by simp[results,Tryz.results87,go_sem,d0,d1,d2,d3]) rfl HF.o
end Bkw
end Go.Proofs.YtcccdikhfgpamaaGreat
