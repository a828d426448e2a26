/- Texts side by side. -/
import Derived.Test.YtcccdikhfgpamaaGreatUfay
import Derived.Test.YtcccdikhfgpamaaGreatUfbi
set_option linter.unusedVariables false
set_option linter.unusedSimpArgs false
set_option maxRecDepth 100000
set_option maxHeartbeats 16000000
namespace Go.Proofs.YtcccdikhfgpamaaGreat
open Kap Abv Lax Go.ChangeShapes Go.WideShapes Go.ChangeAt Go.RowKit Mem Tre Ref3 Law3 Fix3 Cfg Crd CrdB CrdC Rr4 Bkp Bks Bkf Bkg Bcl Dlk Stk Apt Bko Bku Bka Bkc Bkq Rba Rbc Rbd Lat Rmp Rmr Mdn Mdo Mdk Wpl Mdl
namespace Rmd
open Mdp hiding Mm Mm_below Mm_set Mm_off Mm_ep Mm_cr Mm_book Mm_lt
open Mdz hiding Mz_of Mm_setz
open Mds hiding MadeDo madeDo_no
open Rul1 hiding below_step
open Bkw hiding infoN Bo_below Bo_grown
open Mdy hiding infoOut
open Mdd hiding madeDo_up
open Mdj hiding blk_kp
open Wrt (MadeBl)
open Rms (rmsweep_any)
open Rmo (rmorder_any)
open Rmn (rmopen_any openF)
variable {i y:Int} {p:Pm} {w:World}
theorem op_1:openF p 1 i y=canF p i:=by unfold openF;rw[if_pos rfl]
theorem op_2:openF p 2 i y=filF p i y:=by unfold openF;rw[if_neg (by decide),if_pos rfl]
theorem lmt_uni{n x:Int}:lmtF p n x=({p with cl:=Cpl.limL p.cl n x},(Cpl.limF p.cl n x,0,[])):=by
 unfold lmtF;by_cases h:Cpl.limF p.cl n x=0
 ·rw[if_neg (by rw[h];decide),h]
 ·rw[if_pos h];unfold Cpl.limL;rw[if_neg h]
theorem hne_new{X0 X:Option Addr}{xs ys:List Value}(hr:Rd w w.heap.size X0 xs)(hne:xs≠[])(hf:X=X0∨ ∀a,X=some a→w.heap.size+1≤a.block): ∀a,X=some a→a.block≠w.heap.size:=by
 intro a c;rcases hf with hf|hf
 ·obtain⟨b,o,hA,d,_⟩:=Rd.at hr hne;rw[hf,hA]at c;have e:=Option.some.inj c;rw[←e];show b≠_;omega
 ·have:=hf a c;omega
theorem op_3:openF p 3 i y=akF p i:=by unfold openF;rw[if_neg (by decide),if_neg (by decide)]
theorem madeDr_up{base g gZ:Nat}{q q':Mq}{code id:Int}{outs:List (Int×Int)}{wc w':World}{Ao:Option Addr}{no co:Nat}(U:Hid (Below w.heap.size w wc))(hgz:Hid (w.heap.size≤gZ))(Z:Hid (Blk wc gZ 64 #[.int .i64 0,.int .i64 0]))(MZ:Hid (Mz gZ g q))(M:Hid (Rm base wc g q))
  (h:no=outs.length∧Nds w' w'.heap.size Ao outs∧(∀a,Ao=some a→wc.heap.size≤a.block)∧Rm base w' g q'∧plO q'=p∧q'.Ab=q.Ab∧Kp wc w' g q.Ab∧(∀z,z<wc.heap.size→Mz z g q→Mz z g q')∧Cq q'):
  Blk w' gZ 64 #[.int .i64 0,.int .i64 0]∧MadeDr base g q p code id outs w (.returned (.tuple #[.agg #[.int .i64 code,.int .i64 id],.slice Ao no co])) (st2 w' gZ (.int .i64 code) (.int .i64 id)):=by
 obtain⟨o,r,f,s,t,v,l,m,x⟩:=h;have c:=Z.o.lt
 have j:Blk w' gZ 64 (vI 0 0):=(l.block gZ c MZ.o.ne (fun b A=>by
  intro e
  exact blk_own_ne Z.o M.o.row (by decide) (by rw[A,e];rfl))).trans Z.o
 have n:=m gZ c MZ.o;refine⟨j,?_⟩;unfold st2;refine⟨q',Ao,no,co,rfl,o,?_,fun a d=>Nat.le_trans U.o.size (f a d),Rm_setz (Rm_setz s n j (by decide) 0 _) n (blk_st j 0 _) (by decide) 1 _,t,v,Kp_past (Kp_past (Kp_trans (Kp_of_below U.o) l) hgz.o 0 _) hgz.o 1 _,fun z C k=>m z (Nat.lt_of_lt_of_le C U.o.size) k,x⟩;exact Rd.keep' (Rd.keep' r (Nat.lt_succ_self _) (fun a d=>by have:=f a d;omega) _) (Nat.lt_succ_self _) (fun a d=>by have:=f a d;omega) _
theorem rmdo_any(base g m:Nat)(q:Mq)(mk ma ms mp mq mn mt mi my mz mv sx ex:Int)(mx sw:Bool)(w:World)(h:Hid (Rm base w g q))(hv:Hid (Vq m q))(hm:m≤900)(hE:Hid (Vo q))(hep:0≤q.ep∧q.ep≤1000000000)
  (hp:inI mp)(hq:inI mq)(hy:my≤9223372036854775807)(hV:mv≤9223372036854775807)(hsx:inI sx)(hex0: -9223372036854775808≤ex)(hex1:ex≤9223372036854775807)(hcq:Hid (Cq q))(hRG: ∀w0:World,Calls Tryz.prog 42 #[mvl ⟨mk,ma,ms,mx,mp,mq,mn,mt,mi,my,mz,mv⟩] w0 (MadeBl (rightM ⟨mk,ma,ms,mx,mp,mq,mn,mt,mi,my,mz,mv⟩) w0)):
  Calls Tryz.prog 19 #[.pointer (some ⟨g,0,none⟩),.agg #[.int .i64 mk,.int .i64 ma,.int .i64 ms,.bool mx,.int .i64 mp,.int .i64 mq,.int .i64 mn,.int .i64 mt,.int .i64 mi,.int .i64 my,.int .i64 mz,.int .i64 mv,.bool sw,.int .i64 sx,.int .i64 ex]] w (MadeDr base g q (doF (plO q) ⟨⟨mk,ma,ms,mx,mp,mq,mn,mt,mi,my,mz,mv⟩,sw,sx,ex⟩).1 (doF (plO q) ⟨⟨mk,ma,ms,mx,mp,mq,mn,mt,mi,my,mz,mv⟩,sw,sx,ex⟩).2.1 (doF (plO q) ⟨⟨mk,ma,ms,mx,mp,mq,mn,mt,mi,my,mz,mv⟩,sw,sx,ex⟩).2.2.1 (doF (plO q) ⟨⟨mk,ma,ms,mx,mp,mq,mn,mt,mi,my,mz,mv⟩,sw,sx,ex⟩).2.2.2 w):=by
 have U0:=κ (γ w (.cells (vP mk ma ms mx mp mq mn mt mi my mz mv sw sx ex) 59) (.cells (vI 0 0) 64));have O0:=κ ((Blk.fresh w 59 (vP mk ma ms mx mp mq mn mt mi my mz mv sw sx ex)).alloc (.cells (vI 0 0) 64));have Z0:=κ (δ (w.alloc (.cells (vP mk ma ms mx mp mq mn mt mi my mz mv sw sx ex) 59)) 64 (vI 0 0) (w.heap.size+1));have M0:=κ (Rm_below h.o U0.o);have ay:Hid (Mz (w.heap.size+1) g q):=Rz_of h.o (by omega);obtain⟨vn,az⟩:=ν q.nb;have aM:1≤q.nb:=by have h1:=hv.o.nb;have h2:=hv.o.sh;omega
 go_enter Tryz.func19,Tryz.ntmps19
 go_upto_region 1 with fail
 obtain⟨gO,aj⟩:=ν w.heap.size;obtain⟨I,ag⟩:=ν (w.heap.size+1);have O1:=κ (ζ aj O0.o);have Z1:=κ (ζ ag Z0.o);have MZ:Hid (Mz I g q):=by rw[ag];exact ay.o
 have J:Hid (w.heap.size≤I):=by show _≤_;omega
 simp only[←ag];simp only[←aj];clear aj ag O0 Z0 ay;generalize ((w.alloc (.cells (vP mk ma ms mx mp mq mn mt mi my mz mv sw sx ex) 59)).alloc (.cells (vI 0 0) 64))=w0 at O1 Z1 U0 M0 ⊢;have k7:w0.cell? (α g 7)=some (.slice q.Ab vn q.cb):=by rw[az];exact M0.o.blk.cell 7
 have aZ:1≤vn:=by omega
 clear aM az;have tn:((vn:Int)==0)=false:=by simp;omega
 obtain⟨o0,o1,o2,o3,o4,o5,o6,o7,o8,o9,ak,al,am,an,ao⟩:=q15_of O1.o;have a0:Hid (∀p o,doF p o=doF p o):=fun _ _=>rfl
 cases sw with
 |true=>
  have H:Hid (doF (plO q) ⟨⟨mk,ma,ms,mx,mp,mq,mn,mt,mi,my,mz,mv⟩,true,sx,ex⟩=swpF (plO q) sx ex):=do_sw rfl;obtain⟨PP,A,k,X,O⟩: ∃a b c d,swpF (plO q) sx ex=(a,b,c,d):=⟨_,_,_,_,rfl⟩;have P:=rmsweep_any base g m q sx ex w0 M0 hv hm hcq hsx hex0 hex1;rw[O]at P;rw[O]at H;clear O
  go_wp2_with fail
  refine P.mono ?_;rintro e w9 ⟨q',Ao,no,Y,rfl,j⟩;have f:=madeDr_up (co:=Y) (code:=A) (id:=k) U0 J Z1 MZ M0 j;have C:Blk (st2 w9 I (ι A) (ι k)) I 64 (vI A k):=st2_blk f.1;have t:=κ f.2;obtain⟨z0,z1,z2,z3⟩:=q2b f.1;have zx:=χ ((blk_st f.1 0 (ι A)).cell 1);clear f j P
  go_wp2_with fail
  obtain⟨E,F,_,_⟩:=q2b C;clear C;unfold st2 at E F t;exact bodyPost_ret (v:= .tuple #[.agg #[ι A,ι k],.slice Ao no Y]) (by simp[results,Tryz.results15,go_sem,E,F]) rfl (by first|exact t.o|(rw[H.o];exact t.o))
 |false=>
  have RG:=hRG w0;simp only[mvl]at RG
  go_upto_region 3 with fail
  go_wp2_with fail
  refine RG.mono ?_;rintro e l ⟨rfl,ad⟩;have U1:=κ (CrdB.below_step U0.o ad);have O2:=κ (Blk.below' O1.o ad);have Z2:=κ (Blk.below' Z1.o ad);have r:=κ (Rm_below M0.o ad);clear ad o0 o1 o2 o3 o4 o5 o6 o7 o8 o9 ak al am an ao k7 RG O1;by_cases hr:rightM ⟨mk,ma,ms,mx,mp,mq,mn,mt,mi,my,mz,mv⟩=true
  case neg=>
   have aA:rightM ⟨mk,ma,ms,mx,mp,mq,mn,mt,mi,my,mz,mv⟩=false:=by simpa using hr
   rw[aA];have H:Hid (doF (plO q) ⟨⟨mk,ma,ms,mx,mp,mq,mn,mt,mi,my,mz,mv⟩,false,sx,ex⟩=(plO q,(1,0,[]))):=do_bad rfl aA;have f:=madeDr_up (co:=0) (code:=1) (id:=0) (w':=l) (q':=q) (p:=plO q) (outs:=[]) (Ao:=none) (no:=0) U1 J Z2 MZ r ⟨rfl,.inl rfl,fun a Z=>(by cases Z),r.o,rfl,rfl,Kp_of_below ψ,fun z _ h=>h,hcq.o⟩;have C:Blk (st2 l I (ι 1) (ι 0)) I 64 (vI 1 0):=st2_blk f.1;have t:=κ f.2;obtain⟨z0,z1,z2,z3⟩:=q2b f.1;have zx:=χ ((blk_st f.1 0 (ι 1)).cell 1);clear f
   go_wp2_with fail
   obtain⟨E,F,_,_⟩:=q2b C;clear C;unfold st2 at E F t;exact bodyPost_ret (v:= .tuple #[.agg #[ι 1,ι 0],.slice none 0 0]) (by simp[results,Tryz.results15,go_sem,E,F]) rfl (by first|exact t.o|(rw[H.o];exact t.o))
  case pos=>
   rw[hr];obtain⟨aN,aO,aP,ap⟩:=rightM_of hr;have HR:=κ hr;unfold fitP at ap;simp only at aN aO ap;obtain⟨⟨a1,a2⟩,⟨a3,a4⟩,⟨a5,a6⟩,⟨aq,a7⟩,fp,fq,fn,ft,fy,fv⟩:=ap;clear aP hr;obtain⟨o0,o1,o2,o3,o4,o5,o6,o7,o8,o9,ak,al,am,an,ao⟩:=q15_of O2.o;have hk:mk=0∨mk=1∨mk=2∨mk=3∨mk=4∨mk=5∨mk=6:=by omega
   rcases hk with rfl|rfl|rfl|rfl|rfl|rfl|rfl
   ·have H:Hid (doF (plO q) ⟨⟨0,ma,ms,mx,mp,mq,mn,mt,mi,my,mz,mv⟩,false,sx,ex⟩=ordF (plO q) ⟨ma,ms,mx,mp,mq,mn,mt⟩):=(do_0 rfl HR.o rfl);obtain⟨PP,A,k,X,O⟩: ∃a b c d,ordF (plO q) ⟨ma,ms,mx,mp,mq,mn,mt⟩=(a,b,c,d):=⟨_,_,_,_,rfl⟩;have P:=rmorder_any base g m q ma ms mp mq mn mt mx l r hv hm hcq hp hq;rw[O]at P;rw[O]at H;clear O
    go_wp2_with fail
    refine P.mono ?_;rintro e w9 ⟨q',Ao,no,Y,rfl,j⟩;have f:=madeDr_up (co:=Y) (code:=A) (id:=k) U1 J Z2 MZ r j;have C:Blk (st2 w9 I (ι A) (ι k)) I 64 (vI A k):=st2_blk f.1;have t:=κ f.2;obtain⟨z0,z1,z2,z3⟩:=q2b f.1;have zx:=χ ((blk_st f.1 0 (ι A)).cell 1);clear f j P
    go_wp2_with fail
    obtain⟨E,F,_,_⟩:=q2b C;clear C;unfold st2 at E F t;exact bodyPost_ret (v:= .tuple #[.agg #[ι A,ι k],.slice Ao no Y]) (by simp[results,Tryz.results15,go_sem,E,F]) rfl (by first|exact t.o|(rw[H.o];exact t.o))
   ·have H:Hid (doF (plO q) ⟨⟨1,ma,ms,mx,mp,mq,mn,mt,mi,my,mz,mv⟩,false,sx,ex⟩=openF (plO q) 1 mi my):=(do_1 rfl HR.o rfl).trans op_1.symm;obtain⟨PP,A,k,X,O⟩: ∃a b c d,openF (plO q) 1 mi my=(a,b,c,d):=⟨_,_,_,_,rfl⟩;have P:=rmopen_any base g m q 1 ma ms mp mq mn mt mi my mz mv mx l r hv hm hcq hE aq (by omega) hy;rw[O]at P;rw[O]at H;clear O
    go_wp2_with fail
    refine P.mono ?_;rintro e w9 ⟨q',Ao,no,Y,rfl,j⟩;have f:=madeDr_up (co:=Y) (code:=A) (id:=k) U1 J Z2 MZ r j;have C:Blk (st2 w9 I (ι A) (ι k)) I 64 (vI A k):=st2_blk f.1;have t:=κ f.2;obtain⟨z0,z1,z2,z3⟩:=q2b f.1;have zx:=χ ((blk_st f.1 0 (ι A)).cell 1);clear f j P
    go_wp2_with fail
    obtain⟨E,F,_,_⟩:=q2b C;clear C;unfold st2 at E F t;exact bodyPost_ret (v:= .tuple #[.agg #[ι A,ι k],.slice Ao no Y]) (by simp[results,Tryz.results15,go_sem,E,F]) rfl (by first|exact t.o|(rw[H.o];exact t.o))
   ·have H:Hid (doF (plO q) ⟨⟨2,ma,ms,mx,mp,mq,mn,mt,mi,my,mz,mv⟩,false,sx,ex⟩=openF (plO q) 2 mi my):=(do_2 rfl HR.o rfl).trans op_2.symm;obtain⟨PP,A,k,X,O⟩: ∃a b c d,openF (plO q) 2 mi my=(a,b,c,d):=⟨_,_,_,_,rfl⟩;have P:=rmopen_any base g m q 2 ma ms mp mq mn mt mi my mz mv mx l r hv hm hcq hE aq (by omega) hy;rw[O]at P;rw[O]at H;clear O
    go_wp2_with fail
    refine P.mono ?_;rintro e w9 ⟨q',Ao,no,Y,rfl,j⟩;have f:=madeDr_up (co:=Y) (code:=A) (id:=k) U1 J Z2 MZ r j;have C:Blk (st2 w9 I (ι A) (ι k)) I 64 (vI A k):=st2_blk f.1;have t:=κ f.2;obtain⟨z0,z1,z2,z3⟩:=q2b f.1;have zx:=χ ((blk_st f.1 0 (ι A)).cell 1);clear f j P
    go_wp2_with fail
    obtain⟨E,F,_,_⟩:=q2b C;clear C;unfold st2 at E F t;exact bodyPost_ret (v:= .tuple #[.agg #[ι A,ι k],.slice Ao no Y]) (by simp[results,Tryz.results15,go_sem,E,F]) rfl (by first|exact t.o|(rw[H.o];exact t.o))
   ·have H:Hid (doF (plO q) ⟨⟨3,ma,ms,mx,mp,mq,mn,mt,mi,my,mz,mv⟩,false,sx,ex⟩=openF (plO q) 3 mi my):=(do_3 rfl HR.o rfl).trans op_3.symm;obtain⟨PP,A,k,X,O⟩: ∃a b c d,openF (plO q) 3 mi my=(a,b,c,d):=⟨_,_,_,_,rfl⟩;have P:=rmopen_any base g m q 3 ma ms mp mq mn mt mi my mz mv mx l r hv hm hcq hE aq (by omega) hy;rw[O]at P;rw[O]at H;clear O
    go_wp2_with fail
    refine P.mono ?_;rintro e w9 ⟨q',Ao,no,Y,rfl,j⟩;have f:=madeDr_up (co:=Y) (code:=A) (id:=k) U1 J Z2 MZ r j;have C:Blk (st2 w9 I (ι A) (ι k)) I 64 (vI A k):=st2_blk f.1;have t:=κ f.2;obtain⟨z0,z1,z2,z3⟩:=q2b f.1;have zx:=χ ((blk_st f.1 0 (ι A)).cell 1);clear f j P
    go_wp2_with fail
    obtain⟨E,F,_,_⟩:=q2b C;clear C;unfold st2 at E F t;exact bodyPost_ret (v:= .tuple #[.agg #[ι A,ι k],.slice Ao no Y]) (by simp[results,Tryz.results15,go_sem,E,F]) rfl (by first|exact t.o|(rw[H.o];exact t.o))
   ·have H:Hid (doF (plO q) ⟨⟨4,ma,ms,mx,mp,mq,mn,mt,mi,my,mz,mv⟩,false,sx,ex⟩=kilF (plO q)):=do_4 rfl HR.o rfl;have HK:kilF (plO q)=(plO {q with off:=true},(0,q.ep,[])):=rfl;have M4:=κ (Rm_off r.o true);have f:=κ (madeDr_up (co:=0) (code:=0) (id:=q.ep) (w':=(l.setCell (α g 11) (.bool true))) (q':={q with off:=true}) (p:=plO {q with off:=true}) (outs:=[]) (Ao:=none) (no:=0) U1 J Z2 MZ r ⟨rfl,.inl rfl,fun a Z=>(by cases Z),M4.o,rfl,rfl,Kp_setg (Kp_of_below ψ) 11 _,fun z _ h=>Mz_same h,hcq.o⟩);have ah:l.cell? (α g 11)=some (.bool q.off):=r.o.blk.cell 11;have ar:=r.o.blk.thaw 11
    go_upto_region 10 with fail
    clear ah ar;generalize (l.setCell (α g 11) (.bool true))=Q at M4 f ⊢;have au:Q.cell? (α g 10)=some (ι q.ep):=M4.o.blk.cell 10;have C:Blk (st2 Q I (ι 0) (ι (q.ep))) I 64 (vI 0 (q.ep)):=st2_blk f.o.1;have t:=κ f.o.2;obtain⟨z0,z1,z2,z3⟩:=q2b f.o.1;have zx:=χ ((blk_st f.o.1 0 (ι 0)).cell 1);clear f
    go_wp2_with fail
    obtain⟨E,F,_,_⟩:=q2b C;clear C;unfold st2 at E F t;exact bodyPost_ret (v:= .tuple #[.agg #[ι 0,ι (q.ep)],.slice none 0 0]) (by simp[results,Tryz.results15,go_sem,E,F]) rfl (by rw[H.o,HK];exact t.o)
   ·have H:Hid (doF (plO q) ⟨⟨5,ma,ms,mx,mp,mq,mn,mt,mi,my,mz,mv⟩,false,sx,ex⟩=reaF (plO q)):=do_5 rfl HR.o rfl;have e5:wrap64 (q.ep+1)=q.ep+1:=by unfold wrap64;omega
    have aQ:=r.o.blk.thaw 10;have ar:=r.o.blk.thaw 11;have aR:l.cell? (α g 10)=some (ι q.ep):=r.o.blk.cell 10;cases hof:q.off with
    |false=>
     have HK:reaF (plO q)=(plO q,(16,0,[])):=by unfold reaF rearmF;rw[if_neg (by show ¬(plO q).off=true;rw[show(plO q).off=false from hof];decide)]
     have ah:l.cell? (α g 11)=some (.bool false):=by rw[←hof];exact r.o.blk.cell 11
     have f:=κ (madeDr_up (co:=0) (code:=16) (id:=0) (w':=l) (q':=q) (p:=plO q) (outs:=[]) (Ao:=none) (no:=0) U1 J Z2 MZ r ⟨rfl,.inl rfl,fun a Z=>(by cases Z),r.o,rfl,rfl,Kp_of_below ψ,fun z _ h=>h,hcq.o⟩);have C:Blk (st2 l I (ι 16) (ι (0))) I 64 (vI 16 (0)):=st2_blk f.o.1;have t:=κ f.o.2;obtain⟨z0,z1,z2,z3⟩:=q2b f.o.1;have zx:=χ ((blk_st f.o.1 0 (ι 16)).cell 1);clear f
     go_wp2_with fail
     obtain⟨E,F,_,_⟩:=q2b C;clear C;unfold st2 at E F t;exact bodyPost_ret (v:= .tuple #[.agg #[ι 16,ι (0)],.slice none 0 0]) (by simp[results,Tryz.results15,go_sem,E,F]) rfl (by rw[H.o,HK];exact t.o)
    |true=>
     have HK:reaF (plO q)=(plO {q with off:=false,ep:=q.ep+1},(0,q.ep+1,[])):=by unfold reaF rearmF;rw[if_pos (show(plO q).off=true from hof)];rfl
     have ah:l.cell? (α g 11)=some (.bool true):=by rw[←hof];exact r.o.blk.cell 11
     have M3:=κ (Rm_off r.o false);have M4:=κ (ξ (Rm_ep M3.o (q.ep+1)));have au:(l.setCell (α g 11) (.bool false)).cell? (α g 10)=some (ι q.ep):=M3.o.blk.cell 10;have aS:=M3.o.blk.thaw 10;have f:=κ (madeDr_up (co:=0) (code:=0) (id:=q.ep+1) (w':=((l.setCell (α g 11) (.bool false)).setCell (α g 10) (ι (q.ep+1)))) (q':={q with off:=false,ep:=q.ep+1}) (p:=plO {q with off:=false,ep:=q.ep+1}) (outs:=[]) (Ao:=none) (no:=0) U1 J Z2 MZ r ⟨rfl,.inl rfl,fun a Z=>(by cases Z),M4.o,rfl,rfl,Kp_setg (Kp_setg (Kp_of_below ψ) 11 _) 10 _,fun z _ h=>Mz_same h,hcq.o⟩)
     go_upto_region 15 with fail
     clear aR ah aQ ar au aS M3;generalize ((l.setCell (α g 11) (.bool false)).setCell (α g 10) (ι (q.ep+1)))=Q at M4 f ⊢;have au:Q.cell? (α g 10)=some (ι (q.ep+1)):=M4.o.blk.cell 10;have C:Blk (st2 Q I (ι 0) (ι (q.ep+1))) I 64 (vI 0 (q.ep+1)):=st2_blk f.o.1;have t:=κ f.o.2;obtain⟨z0,z1,z2,z3⟩:=q2b f.o.1;have zx:=χ ((blk_st f.o.1 0 (ι 0)).cell 1);clear f
     go_wp2_with fail
     obtain⟨E,F,_,_⟩:=q2b C;clear C;unfold st2 at E F t;exact bodyPost_ret (v:= .tuple #[.agg #[ι 0,ι (q.ep+1)],.slice none 0 0]) (by simp[results,Tryz.results15,go_sem,E,F]) rfl (by rw[H.o,HK];exact t.o)
   ·have H:Hid (doF (plO q) ⟨⟨6,ma,ms,mx,mp,mq,mn,mt,mi,my,mz,mv⟩,false,sx,ex⟩=lmtF (plO q) mz mv):=do_6 rfl HR.o rfl;obtain⟨cc,av⟩:=ν (Cpl.limF q.cl mz mv);obtain⟨CL,aw⟩:=ν (Cpl.limL q.cl mz mv);obtain⟨nC,ax⟩:=ν CL.length;have HK:Hid (lmtF (plO q) mz mv=(plO {q with cl:=CL},(cc,0,[]))):=by show _=_;rw[av,aw];exact lmt_uni
    have RS:=fun W hn hu=>Rfs.rlimit_fresh q.An q.Au q.d1 q.d2 q.cl q.cu mz mv W hn hu hv.o.cr ⟨by omega,by omega⟩ (by omega) hV
    unfold Rfs.MadeLimR at RS;rw[←av,←aw,←r.o.l5,←r.o.l6]at RS;simp only[←ax]at RS;have aT:=κ ax;have aB:=κ ((Rm_lt r.o).1);have aC:=κ ((Rm_lt r.o).2);have HG:=κ hv.o.cr;have a8:=κ r.o.l5;have aU:=κ r.o.l6;clear av aw ax;have ai:Below l.heap.size l l.drew:=Below.drew ψ;have aD:=κ (Rm_below r.o ai);have aE:=κ (Blk.below' O2.o ai);let L:World→Prop:=fun w'=>w'.cell? (α g 8)=some (.slice q.An q.n1 q.d1)∧w'.cell? (α g 9)=some (.slice q.Au q.n2 q.d2)∧w'.cell? (α gO 10)=some (ι mz)∧w'.cell? (α gO 11)=some (ι mv)
    have HT:Hid (L (l.drew)):=⟨aD.o.blk.cell 8,aD.o.blk.cell 9,aE.o.cell 10,aE.o.cell 11⟩;have U:=κ ai;clear ai
    go_upto_region 17 with fail
    clear o0 o1 o2 o3 o4 o5 o6 o7 o8 o9 ak al am an ao
    go_cut [6,7] (fun sS sC wx=> ∃(gS:Nat) (s x:Option Addr) (G K:Nat),sS= .pointer (some (α gS 0))∧sC= ι cc∧Hid (Blk wx gS 114 (vS s nC G x q.n2 K))∧Hid (Nds wx wx.heap.size s CL)∧Hid (Ris wx wx.heap.size x q.cu)∧Hid (s=q.An∨ ∀a,s=some a→l.heap.size≤a.block)∧Hid (x=q.Au∨ ∀a,x=some a→l.heap.size≤a.block)∧Hid (Below l.heap.size l wx))
    case first=>
     refine Ω L [15] ?_;refine jA 0 HT.o ?_;refine jA 1 HT.o ?_;refine jA 2 HT.o ?_;refine jB 3 HT.o ?_;refine jA 4 HT.o ?_;refine jA 5 HT.o ?_;refine jB 6 HT.o ?_;refine jA 7 HT.o ?_;refine jA 8 HT.o ?_;refine jB 9 HT.o ?_;refine Rbc.wpL_two (m:=10) (n:=14) (by kernel_rfl) rfl rfl ?_ ?_
     ·intro K' T;go_simp;refine(RS _ (κ (Rd.below' r.o.cn U.o U.o.size)) (κ (Rd.below' r.o.cr U.o U.o.size))).mono ?_;rintro e Q ⟨s,G,x,K,rfl,ae,af,aa,ab,ac⟩;have R:=κ (CrdB.below_step U.o aa);have M4:=κ (Rm_below r.o R.o);have O4:=κ (Blk.below' O2.o R.o);have S:Hid (L Q):=⟨M4.o.blk.cell 8,M4.o.blk.cell 9,O4.o.cell 10,O4.o.cell 11⟩;have N5:=κ ae;have R5:=κ af;have F5:Hid (s=q.An∨ ∀a,s=some a→l.heap.size≤a.block):=ab;have F6:Hid (x=q.Au∨ ∀a,x=some a→l.heap.size≤a.block):=ac;clear ae af aa ab ac
      go_wp2_with fail
      refine T.out _ _ S.o ?_;clear T K';refine jP ?_;refine jA 11 S.o ?_;refine jA 12 S.o ?_;refine jA 13 S.o ?_;have aF:=κ (R.o.alloc R.o.size (.cells (vS none 0 0 none 0 0) 114));have Mb:=κ (Rm_below r.o aF.o);have Ob:=κ (Blk.below' O2.o aF.o);have aV:Hid (L (Q.alloc (.cells (vS none 0 0 none 0 0) 114))):=⟨Mb.o.blk.cell 8,Mb.o.blk.cell 9,Ob.o.cell 10,Ob.o.cell 11⟩;refine jN 14 fun K' T=>?_
      go_simp;refine T.out _ _ aV.o ?_;clear T K';refine jP ?_;refine jV 15 fun K' T=>?_
      go_simp;refine T.out _ _ ?_;clear T K';refine jP ?_;refine jZ 16 ?_;refine Δ ?_;have hT:=κ (Blk.fresh Q 114 (vS s nC G x q.n2 K));have hU:=β Q (.cells (vS s nC G x q.n2 K) 114)
      go_wp2_with fail
      go_meet;exact⟨Q.heap.size,s,x,G,K,rfl,rfl,hT,Rd.below' N5.o hU hU.size,Rd.below' R5.o hU hU.size,F5,F6,CrdB.below_step R.o hU⟩
     ·intro K' T;have V:=κ (U.o.alloc U.o.size (.cells (vS none 0 0 none 0 0) 114));have Ma:=κ (Rm_below r.o V.o);have Oa:=κ (Blk.below' O2.o V.o);have aW:Hid (L (l.drew.alloc (.cells (vS none 0 0 none 0 0) 114))):=⟨Ma.o.blk.cell 8,Ma.o.blk.cell 9,Oa.o.cell 10,Oa.o.cell 11⟩;have Sa:Hid (Blk (l.drew.alloc (.cells (vS none 0 0 none 0 0) 114)) l.heap.size 114 (vS none 0 0 none 0 0)):=Blk.fresh l.drew _ _;go_simp;refine T.out _ _ aW.o ?_;clear T K';refine jP ?_;refine jN 10 fun K' T=>?_
      go_simp;refine(RS _ (κ (Rd.below' r.o.cn V.o V.o.size)) (κ (Rd.below' r.o.cr V.o V.o.size))).mono ?_;rintro e Q ⟨s,G,x,K,rfl,ae,af,aa,ab,ac⟩;have R:=κ (CrdB.below_step V.o aa);have M4:=κ (Rm_below r.o R.o);have O4:=κ (Blk.below' O2.o R.o);have S:Hid (L Q):=⟨M4.o.blk.cell 8,M4.o.blk.cell 9,O4.o.cell 10,O4.o.cell 11⟩;have N5:=κ ae;have R5:=κ af;have S4:=κ (Blk.below' Sa.o aa);have h9:(l.drew.alloc (.cells (vS none 0 0 none 0 0) 114)).heap.size=l.heap.size+1:=World.size_alloc _ _;have G5:Hid (s=q.An∨ ∀a,s=some a→l.heap.size+1≤a.block):=by rw[h9]at ab;exact ab
      have G6:Hid (x=q.Au∨ ∀a,x=some a→l.heap.size+1≤a.block):=by rw[h9]at ac;exact ac
      clear ae af aa ab ac h9;obtain⟨p0,p1,p2,p3⟩:=q2b S4.o;have p4:=χ ((blk_st S4.o 0 (.slice s nC G)).cell 1);have p5:=(blk_st S4.o 0 (.slice s nC G)).thaw 1
      go_wp2_with fail
      refine T.out _ _ S.o ?_;clear T K';refine jP ?_;refine jA 11 S.o ?_;refine jA 12 S.o ?_;refine jA 13 S.o ?_;refine jV 15 fun K' T=>?_
      go_simp;refine T.out _ _ ?_;clear T K';refine jP ?_;refine jZ 16 ?_;refine Δ ?_;have e5:=hne_new (ys:=[]) r.o.cn (Rmr.nds_ne HG.o.one) G5.o;have e6:=hne_new (ys:=[]) r.o.cr (Rmr.ints_ne (by show 1≤q.cu.length;rw[HG.o.len];exact HG.o.one)) G6.o;have hT:Hid (Blk (st2 Q l.heap.size (.slice s nC G) (.slice x q.n2 K)) l.heap.size 114 (vS s nC G x q.n2 K)):=st2_blk S4.o;have hN:Hid (Nds (st2 Q l.heap.size (.slice s nC G) (.slice x q.n2 K)) (st2 Q l.heap.size (.slice s nC G) (.slice x q.n2 K)).heap.size s CL):=Rd.keep' (Rd.keep' N5.o (Nat.lt_succ_self _) e5 _) (Nat.lt_succ_self _) e5 _;have hR:Hid (Ris (st2 Q l.heap.size (.slice s nC G) (.slice x q.n2 K)) (st2 Q l.heap.size (.slice s nC G) (.slice x q.n2 K)).heap.size x q.cu):=Rd.keep' (Rd.keep' R5.o (Nat.lt_succ_self _) e6 _) (Nat.lt_succ_self _) e6 _;have hB:Hid (Below l.heap.size l (st2 Q l.heap.size (.slice s nC G) (.slice x q.n2 K))):=st2_below R.o τ;have F5:Hid (s=q.An∨ ∀a,s=some a→l.heap.size≤a.block):=G5.o.imp id (fun hf a Z=>by have:=hf a Z;omega);have F6:Hid (x=q.Au∨ ∀a,x=some a→l.heap.size≤a.block):=G6.o.imp id (fun hf a Z=>by have:=hf a Z;omega);clear p0 p1 p2 p3 p4 p5 e5 e6
      go_wp2_with fail
      go_meet;exact⟨l.heap.size,s,x,G,K,rfl,rfl,hT,hN,hR,F5,F6,hB⟩
    case rest=>
     obtain⟨gS,s,x,G,K,rfl,rfl,S6,N6,R6,F5,F6,aG⟩:=hcut
     rename World=>w6
     have M6:=κ (Rm_below r.o aG.o);have aH:=κ (Rmr.nds_ne HG.o.one);have a9:=κ (Rmr.ints_ne (by show 1≤q.cu.length;rw[HG.o.len];exact HG.o.one))
     have aI:Far g q.Ab s (nds CL):=by
      rcases F5.o with e|e
      ·rw[e];exact Rmr.far_same r.o.f4 aH.o
      ·exact Far_new aB.o aC.o e
     have aJ:Far g q.Ab x (ints q.cu):=by
      rcases F6.o with e|e
      ·rw[e];exact r.o.f5
      ·exact Far_new aB.o aC.o e
     have aK:Hid (Rm base ((w6.setCell (α g 8) (.slice s nC G)).setCell (α g 9) (.slice x q.n2 K)) g {q with An:=s,Au:=x,n1:=nC,n2:=q.n2,d1:=G,d2:=K,cl:=CL,cu:=q.cu}):=Rm_cr M6.o N6.o R6.o aI aJ aT.o aU.o
     have aL: ∀z,z<l.heap.size→Mz z g q→Mz z g {q with An:=s,Au:=x,n1:=nC,n2:=q.n2,d1:=G,d2:=K,cl:=CL,cu:=q.cu}:=by
      intro z hz h9
      have aX:FarE z s (nds CL):=by
       rcases F5.o with e|e
       ·rw[e];exact Rmr.farE_same h9.z4 aH.o
       ·exact FarE_new hz e
      have aY:FarE z x (ints q.cu):=by
       rcases F6.o with e|e
       ·rw[e];exact h9.z5
       ·exact FarE_new hz e
      exact⟨h9.ne,h9.z1,h9.z2,h9.z3,aX,aY,h9.zx⟩
     have f:=κ (madeDr_up (co:=0) (code:=cc) (id:=0) (w':=((w6.setCell (α g 8) (.slice s nC G)).setCell (α g 9) (.slice x q.n2 K))) (q':={q with An:=s,Au:=x,n1:=nC,n2:=q.n2,d1:=G,d2:=K,cl:=CL,cu:=q.cu}) (p:=plO {q with cl:=CL}) (outs:=[]) (Ao:=none) (no:=0) U1 J Z2 MZ r ⟨rfl,.inl rfl,fun a Z=>(by cases Z),aK.o,rfl,rfl,Kp_setg (Kp_setg (Kp_of_below aG.o) 8 _) 9 _,aL,hcq.o⟩);have K6:=κ M6.o.blk;obtain⟨s0,s1,s2,s3⟩:=q2b S6.o;have k8:=K6.o.cell 8;have f8:=K6.o.thaw 8;have f9:=K6.o.thaw 9;have k9:=K6.o.cell 9;have x9:(w6.setCell (α g 8) (.slice s nC G)).cell? (α g 9)=some (.slice q.Au q.n2 q.d2):=(blk_st K6.o 8 (.slice s nC G)).cell 9;have y9:=(blk_st K6.o 8 (.slice s nC G)).thaw 9;simp only[mqV,List.getElem?_toArray,List.getElem?_cons_succ,List.getElem?_cons_zero]at k8 k9;clear aI aJ aL
     go_upto_region 19 with fail
     clear s0 s1 s2 s3 k8 k9 f8 f9 x9 y9 K6 M6;generalize ((w6.setCell (α g 8) (.slice s nC G)).setCell (α g 9) (.slice x q.n2 K))=w9 at aK f ⊢;have C:Blk (st2 w9 I (ι cc) (ι (0))) I 64 (vI cc (0)):=st2_blk f.o.1;have t:=κ f.o.2;obtain⟨z0,z1,z2,z3⟩:=q2b f.o.1;have zx:=χ ((blk_st f.o.1 0 (ι cc)).cell 1);clear f
     go_wp2_with fail
     obtain⟨E,F,_,_⟩:=q2b C;clear C;unfold st2 at E F t;exact bodyPost_ret (v:= .tuple #[.agg #[ι cc,ι (0)],.slice none 0 0]) (by simp[results,Tryz.results15,go_sem,E,F]) rfl (by rw[H.o,HK.o];exact t.o)
end Rmd
end Go.Proofs.YtcccdikhfgpamaaGreat
