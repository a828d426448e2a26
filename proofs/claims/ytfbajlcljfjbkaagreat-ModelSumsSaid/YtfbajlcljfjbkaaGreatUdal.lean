/- Texts side by side. -/
import Derived.Test.YtfbajlcljfjbkaaGreatUdak
set_option linter.unusedVariables false
set_option linter.unusedSimpArgs false
set_option maxRecDepth 100000
set_option maxHeartbeats 16000000
namespace Go.Proofs.YtfbajlcljfjbkaaGreat
open Kap Abv Lax Go.ChangeShapes Go.WideShapes Go.ChangeAt Go.RowKit Mem Tre Ref3 Law3 Fix3 Cfg Crd CrdB CrdC Rr4 Bkp Bks Bkf Bkg Bcl Dlk Stk Apt Bko Bku Bka Bkc Bkq Rba Rbc Rbd Lat Rmp Rmr Mdn Mdo Mdk Wpl Mdl
namespace Rmd
open Mdp hiding Mm Mm_below Mm_set Mm_off Mm_ep Mm_cr Mm_book Mm_lt
open Mdz hiding Mz_of Mm_setz
open Mds hiding MadeDo madeDo_no
open Rul1 hiding below_step
open Bkw hiding infoN Bo_below Bo_grown
open Mdy hiding infoOut
open Mdd hiding madeDo_up
open Mdj hiding blk_kp
open Wrt (MadeBl)
open Rms (rmsweep_any)
open Rmo (rmorder_any)
open Rmn (rmopen_any openF)
variable {i y:Int} {p:Pm} {w:World}
theorem op_1:openF p 1 i y=canF p i:=by unfold openF;rw[if_pos rfl]
theorem op_2:openF p 2 i y=filF p i y:=by unfold openF;rw[if_neg (by decide),if_pos rfl]
theorem lmt_uni{n x:Int}:lmtF p n x=({p with cl:=Cpl.limL p.cl n x},(Cpl.limF p.cl n x,0,[])):=by
 unfold lmtF;by_cases h:Cpl.limF p.cl n x=0
 ·rw[if_neg (by rw[h];decide),h]
 ·rw[if_pos h];unfold Cpl.limL;rw[if_neg h]
theorem hne_new{X0 X:Option Addr}{xs ys:List Value}(hr:Rd w w.heap.size X0 xs)(hne:xs≠[])(hf:X=X0∨ ∀a,X=some a→w.heap.size+1≤a.block): ∀a,X=some a→a.block≠w.heap.size:=by
 intro a ha;rcases hf with hf|hf
 ·obtain⟨b,o,hA,hb,_⟩:=Rd.at hr hne;rw[hf,hA]at ha;have e:=Option.some.inj ha;rw[←e];show b≠_;omega
 ·have:=hf a ha;omega
theorem op_3:openF p 3 i y=akF p i:=by unfold openF;rw[if_neg (by decide),if_neg (by decide)]
theorem madeDr_up{base g gZ:Nat}{q q':Mq}{code id:Int}{outs:List (Int×Int)}{wc w':World}{Ao:Option Addr}{no co:Nat}(U:Hid (Below w.heap.size w wc))(hgz:Hid (w.heap.size≤gZ))(Z:Hid (Blk wc gZ 67 #[.int .i64 0,.int .i64 0]))(MZ:Hid (Mz gZ g q))(M:Hid (Rm base wc g q))
  (h:no=outs.length∧Nds w' w'.heap.size Ao outs∧(∀a,Ao=some a→wc.heap.size≤a.block)∧Rm base w' g q'∧plO q'=p∧q'.Ab=q.Ab∧Kp wc w' g q.Ab∧(∀z,z<wc.heap.size→Mz z g q→Mz z g q')∧Cq q'):
  Blk w' gZ 67 #[.int .i64 0,.int .i64 0]∧MadeDr base g q p code id outs w (.returned (.tuple #[.agg #[.int .i64 code,.int .i64 id],.slice Ao no co])) (st2 w' gZ (.int .i64 code) (.int .i64 id)):=by
 obtain⟨h1,h2,h3,h4,h5,h6,h7,h8,h9⟩:=h;have hzl:=Z.out.lt
 have hZ:Blk w' gZ 67 (vI 0 0):=(h7.block gZ hzl MZ.out.ne (fun b hb=>by
  intro e
  exact blk_own_ne Z.out M.out.row (by decide) (by rw[hb,e];rfl))).trans Z.out
 have hm:=h8 gZ hzl MZ.out;refine⟨hZ,?_⟩;unfold st2;refine⟨q',Ao,no,co,rfl,h1,?_,fun a ha=>Nat.le_trans U.out.size (h3 a ha),Rm_setz (Rm_setz h4 hm hZ (by decide) 0 _) hm (blk_st hZ 0 _) (by decide) 1 _,h5,h6,Kp_past (Kp_past (Kp_trans (Kp_of_below U.out) h7) hgz.out 0 _) hgz.out 1 _,fun z hz hmz=>h8 z (Nat.lt_of_lt_of_le hz U.out.size) hmz,h9⟩;exact Rd.keep' (Rd.keep' h2 (Nat.lt_succ_self _) (fun a ha=>by have:=h3 a ha;omega) _) (Nat.lt_succ_self _) (fun a ha=>by have:=h3 a ha;omega) _
theorem rmdo_any(base g m:Nat)(q:Mq)(mk ma ms mp mq mn mt mi my mz mv sx ex:Int)(mx sw:Bool)(w:World)(h:Hid (Rm base w g q))(hv:Hid (Vq m q))(hm:m≤900)(hE:Hid (Vo q))(hep:0≤q.ep∧q.ep≤1000000000)
  (hp:inI mp)(hq:inI mq)(hy:my≤9223372036854775807)(hV:mv≤9223372036854775807)(hsx:inI sx)(hex0: -9223372036854775808≤ex)(hex1:ex≤9223372036854775807)(hcq:Hid (Cq q))(hRG: ∀w0:World,Calls Tryz.prog 48 #[mvl ⟨mk,ma,ms,mx,mp,mq,mn,mt,mi,my,mz,mv⟩] w0 (MadeBl (rightM ⟨mk,ma,ms,mx,mp,mq,mn,mt,mi,my,mz,mv⟩) w0)):
  Calls Tryz.prog 15 #[.pointer (some ⟨g,0,none⟩),.agg #[.int .i64 mk,.int .i64 ma,.int .i64 ms,.bool mx,.int .i64 mp,.int .i64 mq,.int .i64 mn,.int .i64 mt,.int .i64 mi,.int .i64 my,.int .i64 mz,.int .i64 mv,.bool sw,.int .i64 sx,.int .i64 ex]] w (MadeDr base g q (doF (plO q) ⟨⟨mk,ma,ms,mx,mp,mq,mn,mt,mi,my,mz,mv⟩,sw,sx,ex⟩).1 (doF (plO q) ⟨⟨mk,ma,ms,mx,mp,mq,mn,mt,mi,my,mz,mv⟩,sw,sx,ex⟩).2.1 (doF (plO q) ⟨⟨mk,ma,ms,mx,mp,mq,mn,mt,mi,my,mz,mv⟩,sw,sx,ex⟩).2.2.1 (doF (plO q) ⟨⟨mk,ma,ms,mx,mp,mq,mn,mt,mi,my,mz,mv⟩,sw,sx,ex⟩).2.2.2 w):=by
 have U0:=κ (γ w (.cells (vP mk ma ms mx mp mq mn mt mi my mz mv sw sx ex) 51) (.cells (vI 0 0) 67));have O0:=κ ((Blk.fresh w 51 (vP mk ma ms mx mp mq mn mt mi my mz mv sw sx ex)).alloc (.cells (vI 0 0) 67));have Z0:=κ (δ (w.alloc (.cells (vP mk ma ms mx mp mq mn mt mi my mz mv sw sx ex) 51)) 67 (vI 0 0) (w.heap.size+1));have M0:=κ (Rm_below h.out U0.out);have MZ0:Hid (Mz (w.heap.size+1) g q):=Rz_of h.out (by omega);obtain⟨vn,hvn⟩:=ν q.nb;have hnb0:1≤q.nb:=by have h1:=hv.out.nb;have h2:=hv.out.sh;omega
 go_enter Tryz.func15,Tryz.ntmps15
 go_upto_region 1 with fail
 obtain⟨gO,hgO⟩:=ν w.heap.size;obtain⟨gZ,hgZ⟩:=ν (w.heap.size+1);have O1:=κ (ζ hgO O0.out);have Z1:=κ (ζ hgZ Z0.out);have MZ:Hid (Mz gZ g q):=by rw[hgZ];exact MZ0.out
 have HGZ:Hid (w.heap.size≤gZ):=by show _≤_;omega
 simp only[←hgZ];simp only[←hgO];clear hgO hgZ O0 Z0 MZ0;generalize ((w.alloc (.cells (vP mk ma ms mx mp mq mn mt mi my mz mv sw sx ex) 51)).alloc (.cells (vI 0 0) 67))=w0 at O1 Z1 U0 M0 ⊢;have k7:w0.cell? (α g 7)=some (.slice q.Ab vn q.cb):=by rw[hvn];exact M0.out.blk.cell 7
 have hnb1:1≤vn:=by omega
 clear hnb0 hvn;have tn:((vn:Int)==0)=false:=by simp;omega
 obtain⟨o0,o1,o2,o3,o4,o5,o6,o7,o8,o9,o10,o11,o12,o13,o14⟩:=q15_of O1.out;have HDO:Hid (∀p o,doF p o=doF p o):=fun _ _=>rfl
 cases sw with
 |true=>
  have HD:Hid (doF (plO q) ⟨⟨mk,ma,ms,mx,mp,mq,mn,mt,mi,my,mz,mv⟩,true,sx,ex⟩=swpF (plO q) sx ex):=do_sw rfl;obtain⟨PP,cd,idv,outs,hF⟩: ∃a b c d,swpF (plO q) sx ex=(a,b,c,d):=⟨_,_,_,_,rfl⟩;have CX:=rmsweep_any base g m q sx ex w0 M0 hv hm hcq hsx hex0 hex1;rw[hF]at CX;rw[hF]at HD;clear hF
  go_wp2_with fail
  refine CX.mono ?_;rintro e w9 ⟨q',Ao,no,co,rfl,hrest⟩;have HU:=madeDr_up (co:=co) (code:=cd) (id:=idv) U0 HGZ Z1 MZ M0 hrest;have F3:Blk (st2 w9 gZ (ι cd) (ι idv)) gZ 67 (vI cd idv):=st2_blk HU.1;have HF:=κ HU.2;obtain⟨z0,z1,z2,z3⟩:=q2b HU.1;have zx:=χ ((blk_st HU.1 0 (ι cd)).cell 1);clear HU hrest CX
  go_wp2_with fail
  obtain⟨e0,e1,_,_⟩:=q2b F3;clear F3;unfold st2 at e0 e1 HF;exact bodyPost_ret (v:= .tuple #[.agg #[ι cd,ι idv],.slice Ao no co]) (by simp[results,Tryz.results15,go_sem,e0,e1]) rfl (by first|exact HF.out|(rw[HD.out];exact HF.out))
 |false=>
  have RG:=hRG w0;simp only[mvl]at RG
  go_upto_region 3 with fail
  go_wp2_with fail
  refine RG.mono ?_;rintro e w1 ⟨rfl,hb1⟩;have U1:=κ (CrdB.below_step U0.out hb1);have O2:=κ (Blk.below' O1.out hb1);have Z2:=κ (Blk.below' Z1.out hb1);have M1:=κ (Rm_below M0.out hb1);clear hb1 o0 o1 o2 o3 o4 o5 o6 o7 o8 o9 o10 o11 o12 o13 o14 k7 RG O1;by_cases hr:rightM ⟨mk,ma,ms,mx,mp,mq,mn,mt,mi,my,mz,mv⟩=true
  case neg=>
   have hr':rightM ⟨mk,ma,ms,mx,mp,mq,mn,mt,mi,my,mz,mv⟩=false:=by simpa using hr
   rw[hr'];have HD:Hid (doF (plO q) ⟨⟨mk,ma,ms,mx,mp,mq,mn,mt,mi,my,mz,mv⟩,false,sx,ex⟩=(plO q,(1,0,[]))):=do_bad rfl hr';have HU:=madeDr_up (co:=0) (code:=1) (id:=0) (w':=w1) (q':=q) (p:=plO q) (outs:=[]) (Ao:=none) (no:=0) U1 HGZ Z2 MZ M1 ⟨rfl,.inl rfl,fun a ha=>(by cases ha),M1.out,rfl,rfl,Kp_of_below ψ,fun z _ h=>h,hcq.out⟩;have F3:Blk (st2 w1 gZ (ι 1) (ι 0)) gZ 67 (vI 1 0):=st2_blk HU.1;have HF:=κ HU.2;obtain⟨z0,z1,z2,z3⟩:=q2b HU.1;have zx:=χ ((blk_st HU.1 0 (ι 1)).cell 1);clear HU
   go_wp2_with fail
   obtain⟨e0,e1,_,_⟩:=q2b F3;clear F3;unfold st2 at e0 e1 HF;exact bodyPost_ret (v:= .tuple #[.agg #[ι 1,ι 0],.slice none 0 0]) (by simp[results,Tryz.results15,go_sem,e0,e1]) rfl (by first|exact HF.out|(rw[HD.out];exact HF.out))
  case pos=>
   rw[hr];obtain⟨hk0,hk6,heq,hfit⟩:=rightM_of hr;have HR:=κ hr;unfold fitP at hfit;simp only at hk0 hk6 hfit;obtain⟨⟨fa0,fa1⟩,⟨fs0,fs1⟩,⟨fz0,fz1⟩,⟨fi0,fi1⟩,fp,fq,fn,ft,fy,fv⟩:=hfit;clear heq hr;obtain⟨o0,o1,o2,o3,o4,o5,o6,o7,o8,o9,o10,o11,o12,o13,o14⟩:=q15_of O2.out;have hk:mk=0∨mk=1∨mk=2∨mk=3∨mk=4∨mk=5∨mk=6:=by omega
   rcases hk with rfl|rfl|rfl|rfl|rfl|rfl|rfl
   ·have HD:Hid (doF (plO q) ⟨⟨0,ma,ms,mx,mp,mq,mn,mt,mi,my,mz,mv⟩,false,sx,ex⟩=ordF (plO q) ⟨ma,ms,mx,mp,mq,mn,mt⟩):=(do_0 rfl HR.out rfl);obtain⟨PP,cd,idv,outs,hF⟩: ∃a b c d,ordF (plO q) ⟨ma,ms,mx,mp,mq,mn,mt⟩=(a,b,c,d):=⟨_,_,_,_,rfl⟩;have CX:=rmorder_any base g m q ma ms mp mq mn mt mx w1 M1 hv hm hcq hp hq;rw[hF]at CX;rw[hF]at HD;clear hF
    go_wp2_with fail
    refine CX.mono ?_;rintro e w9 ⟨q',Ao,no,co,rfl,hrest⟩;have HU:=madeDr_up (co:=co) (code:=cd) (id:=idv) U1 HGZ Z2 MZ M1 hrest;have F3:Blk (st2 w9 gZ (ι cd) (ι idv)) gZ 67 (vI cd idv):=st2_blk HU.1;have HF:=κ HU.2;obtain⟨z0,z1,z2,z3⟩:=q2b HU.1;have zx:=χ ((blk_st HU.1 0 (ι cd)).cell 1);clear HU hrest CX
    go_wp2_with fail
    obtain⟨e0,e1,_,_⟩:=q2b F3;clear F3;unfold st2 at e0 e1 HF;exact bodyPost_ret (v:= .tuple #[.agg #[ι cd,ι idv],.slice Ao no co]) (by simp[results,Tryz.results15,go_sem,e0,e1]) rfl (by first|exact HF.out|(rw[HD.out];exact HF.out))
   ·have HD:Hid (doF (plO q) ⟨⟨1,ma,ms,mx,mp,mq,mn,mt,mi,my,mz,mv⟩,false,sx,ex⟩=openF (plO q) 1 mi my):=(do_1 rfl HR.out rfl).trans op_1.symm;obtain⟨PP,cd,idv,outs,hF⟩: ∃a b c d,openF (plO q) 1 mi my=(a,b,c,d):=⟨_,_,_,_,rfl⟩;have CX:=rmopen_any base g m q 1 ma ms mp mq mn mt mi my mz mv mx w1 M1 hv hm hcq hE fi0 (by omega) hy;rw[hF]at CX;rw[hF]at HD;clear hF
    go_wp2_with fail
    refine CX.mono ?_;rintro e w9 ⟨q',Ao,no,co,rfl,hrest⟩;have HU:=madeDr_up (co:=co) (code:=cd) (id:=idv) U1 HGZ Z2 MZ M1 hrest;have F3:Blk (st2 w9 gZ (ι cd) (ι idv)) gZ 67 (vI cd idv):=st2_blk HU.1;have HF:=κ HU.2;obtain⟨z0,z1,z2,z3⟩:=q2b HU.1;have zx:=χ ((blk_st HU.1 0 (ι cd)).cell 1);clear HU hrest CX
    go_wp2_with fail
    obtain⟨e0,e1,_,_⟩:=q2b F3;clear F3;unfold st2 at e0 e1 HF;exact bodyPost_ret (v:= .tuple #[.agg #[ι cd,ι idv],.slice Ao no co]) (by simp[results,Tryz.results15,go_sem,e0,e1]) rfl (by first|exact HF.out|(rw[HD.out];exact HF.out))
   ·have HD:Hid (doF (plO q) ⟨⟨2,ma,ms,mx,mp,mq,mn,mt,mi,my,mz,mv⟩,false,sx,ex⟩=openF (plO q) 2 mi my):=(do_2 rfl HR.out rfl).trans op_2.symm;obtain⟨PP,cd,idv,outs,hF⟩: ∃a b c d,openF (plO q) 2 mi my=(a,b,c,d):=⟨_,_,_,_,rfl⟩;have CX:=rmopen_any base g m q 2 ma ms mp mq mn mt mi my mz mv mx w1 M1 hv hm hcq hE fi0 (by omega) hy;rw[hF]at CX;rw[hF]at HD;clear hF
    go_wp2_with fail
    refine CX.mono ?_;rintro e w9 ⟨q',Ao,no,co,rfl,hrest⟩;have HU:=madeDr_up (co:=co) (code:=cd) (id:=idv) U1 HGZ Z2 MZ M1 hrest;have F3:Blk (st2 w9 gZ (ι cd) (ι idv)) gZ 67 (vI cd idv):=st2_blk HU.1;have HF:=κ HU.2;obtain⟨z0,z1,z2,z3⟩:=q2b HU.1;have zx:=χ ((blk_st HU.1 0 (ι cd)).cell 1);clear HU hrest CX
    go_wp2_with fail
    obtain⟨e0,e1,_,_⟩:=q2b F3;clear F3;unfold st2 at e0 e1 HF;exact bodyPost_ret (v:= .tuple #[.agg #[ι cd,ι idv],.slice Ao no co]) (by simp[results,Tryz.results15,go_sem,e0,e1]) rfl (by first|exact HF.out|(rw[HD.out];exact HF.out))
   ·have HD:Hid (doF (plO q) ⟨⟨3,ma,ms,mx,mp,mq,mn,mt,mi,my,mz,mv⟩,false,sx,ex⟩=openF (plO q) 3 mi my):=(do_3 rfl HR.out rfl).trans op_3.symm;obtain⟨PP,cd,idv,outs,hF⟩: ∃a b c d,openF (plO q) 3 mi my=(a,b,c,d):=⟨_,_,_,_,rfl⟩;have CX:=rmopen_any base g m q 3 ma ms mp mq mn mt mi my mz mv mx w1 M1 hv hm hcq hE fi0 (by omega) hy;rw[hF]at CX;rw[hF]at HD;clear hF
    go_wp2_with fail
    refine CX.mono ?_;rintro e w9 ⟨q',Ao,no,co,rfl,hrest⟩;have HU:=madeDr_up (co:=co) (code:=cd) (id:=idv) U1 HGZ Z2 MZ M1 hrest;have F3:Blk (st2 w9 gZ (ι cd) (ι idv)) gZ 67 (vI cd idv):=st2_blk HU.1;have HF:=κ HU.2;obtain⟨z0,z1,z2,z3⟩:=q2b HU.1;have zx:=χ ((blk_st HU.1 0 (ι cd)).cell 1);clear HU hrest CX
    go_wp2_with fail
    obtain⟨e0,e1,_,_⟩:=q2b F3;clear F3;unfold st2 at e0 e1 HF;exact bodyPost_ret (v:= .tuple #[.agg #[ι cd,ι idv],.slice Ao no co]) (by simp[results,Tryz.results15,go_sem,e0,e1]) rfl (by first|exact HF.out|(rw[HD.out];exact HF.out))
   ·have HD:Hid (doF (plO q) ⟨⟨4,ma,ms,mx,mp,mq,mn,mt,mi,my,mz,mv⟩,false,sx,ex⟩=kilF (plO q)):=do_4 rfl HR.out rfl;have HK:kilF (plO q)=(plO {q with off:=true},(0,q.ep,[])):=rfl;have M4:=κ (Rm_off M1.out true);have HU:=κ (madeDr_up (co:=0) (code:=0) (id:=q.ep) (w':=(w1.setCell (α g 11) (.bool true))) (q':={q with off:=true}) (p:=plO {q with off:=true}) (outs:=[]) (Ao:=none) (no:=0) U1 HGZ Z2 MZ M1 ⟨rfl,.inl rfl,fun a ha=>(by cases ha),M4.out,rfl,rfl,Kp_setg (Kp_of_below ψ) 11 _,fun z _ h=>Mz_same h,hcq.out⟩);have k11:w1.cell? (α g 11)=some (.bool q.off):=M1.out.blk.cell 11;have f11:=M1.out.blk.thaw 11
    go_upto_region 10 with fail
    clear k11 f11;generalize (w1.setCell (α g 11) (.bool true))=w4 at M4 HU ⊢;have x10:w4.cell? (α g 10)=some (ι q.ep):=M4.out.blk.cell 10;have F3:Blk (st2 w4 gZ (ι 0) (ι (q.ep))) gZ 67 (vI 0 (q.ep)):=st2_blk HU.out.1;have HF:=κ HU.out.2;obtain⟨z0,z1,z2,z3⟩:=q2b HU.out.1;have zx:=χ ((blk_st HU.out.1 0 (ι 0)).cell 1);clear HU
    go_wp2_with fail
    obtain⟨e0,e1,_,_⟩:=q2b F3;clear F3;unfold st2 at e0 e1 HF;exact bodyPost_ret (v:= .tuple #[.agg #[ι 0,ι (q.ep)],.slice none 0 0]) (by simp[results,Tryz.results15,go_sem,e0,e1]) rfl (by rw[HD.out,HK];exact HF.out)
   ·have HD:Hid (doF (plO q) ⟨⟨5,ma,ms,mx,mp,mq,mn,mt,mi,my,mz,mv⟩,false,sx,ex⟩=reaF (plO q)):=do_5 rfl HR.out rfl;have e5:wrap64 (q.ep+1)=q.ep+1:=by unfold wrap64;omega
    have f10:=M1.out.blk.thaw 10;have f11:=M1.out.blk.thaw 11;have k10:w1.cell? (α g 10)=some (ι q.ep):=M1.out.blk.cell 10;cases hof:q.off with
    |false=>
     have HK:reaF (plO q)=(plO q,(16,0,[])):=by unfold reaF rearmF;rw[if_neg (by show ¬(plO q).off=true;rw[show(plO q).off=false from hof];decide)]
     have k11:w1.cell? (α g 11)=some (.bool false):=by rw[←hof];exact M1.out.blk.cell 11
     have HU:=κ (madeDr_up (co:=0) (code:=16) (id:=0) (w':=w1) (q':=q) (p:=plO q) (outs:=[]) (Ao:=none) (no:=0) U1 HGZ Z2 MZ M1 ⟨rfl,.inl rfl,fun a ha=>(by cases ha),M1.out,rfl,rfl,Kp_of_below ψ,fun z _ h=>h,hcq.out⟩);have F3:Blk (st2 w1 gZ (ι 16) (ι (0))) gZ 67 (vI 16 (0)):=st2_blk HU.out.1;have HF:=κ HU.out.2;obtain⟨z0,z1,z2,z3⟩:=q2b HU.out.1;have zx:=χ ((blk_st HU.out.1 0 (ι 16)).cell 1);clear HU
     go_wp2_with fail
     obtain⟨e0,e1,_,_⟩:=q2b F3;clear F3;unfold st2 at e0 e1 HF;exact bodyPost_ret (v:= .tuple #[.agg #[ι 16,ι (0)],.slice none 0 0]) (by simp[results,Tryz.results15,go_sem,e0,e1]) rfl (by rw[HD.out,HK];exact HF.out)
    |true=>
     have HK:reaF (plO q)=(plO {q with off:=false,ep:=q.ep+1},(0,q.ep+1,[])):=by unfold reaF rearmF;rw[if_pos (show(plO q).off=true from hof)];rfl
     have k11:w1.cell? (α g 11)=some (.bool true):=by rw[←hof];exact M1.out.blk.cell 11
     have M3:=κ (Rm_off M1.out false);have M4:=κ (ξ (Rm_ep M3.out (q.ep+1)));have x10:(w1.setCell (α g 11) (.bool false)).cell? (α g 10)=some (ι q.ep):=M3.out.blk.cell 10;have y10:=M3.out.blk.thaw 10;have HU:=κ (madeDr_up (co:=0) (code:=0) (id:=q.ep+1) (w':=((w1.setCell (α g 11) (.bool false)).setCell (α g 10) (ι (q.ep+1)))) (q':={q with off:=false,ep:=q.ep+1}) (p:=plO {q with off:=false,ep:=q.ep+1}) (outs:=[]) (Ao:=none) (no:=0) U1 HGZ Z2 MZ M1 ⟨rfl,.inl rfl,fun a ha=>(by cases ha),M4.out,rfl,rfl,Kp_setg (Kp_setg (Kp_of_below ψ) 11 _) 10 _,fun z _ h=>Mz_same h,hcq.out⟩)
     go_upto_region 15 with fail
     clear k10 k11 f10 f11 x10 y10 M3;generalize ((w1.setCell (α g 11) (.bool false)).setCell (α g 10) (ι (q.ep+1)))=w4 at M4 HU ⊢;have x10:w4.cell? (α g 10)=some (ι (q.ep+1)):=M4.out.blk.cell 10;have F3:Blk (st2 w4 gZ (ι 0) (ι (q.ep+1))) gZ 67 (vI 0 (q.ep+1)):=st2_blk HU.out.1;have HF:=κ HU.out.2;obtain⟨z0,z1,z2,z3⟩:=q2b HU.out.1;have zx:=χ ((blk_st HU.out.1 0 (ι 0)).cell 1);clear HU
     go_wp2_with fail
     obtain⟨e0,e1,_,_⟩:=q2b F3;clear F3;unfold st2 at e0 e1 HF;exact bodyPost_ret (v:= .tuple #[.agg #[ι 0,ι (q.ep+1)],.slice none 0 0]) (by simp[results,Tryz.results15,go_sem,e0,e1]) rfl (by rw[HD.out,HK];exact HF.out)
   ·have HD:Hid (doF (plO q) ⟨⟨6,ma,ms,mx,mp,mq,mn,mt,mi,my,mz,mv⟩,false,sx,ex⟩=lmtF (plO q) mz mv):=do_6 rfl HR.out rfl;obtain⟨cc,hcc⟩:=ν (Cpl.limF q.cl mz mv);obtain⟨CL,hCL⟩:=ν (Cpl.limL q.cl mz mv);obtain⟨nC,hnC⟩:=ν CL.length;have HK:Hid (lmtF (plO q) mz mv=(plO {q with cl:=CL},(cc,0,[]))):=by show _=_;rw[hcc,hCL];exact lmt_uni
    have RS:=fun W hn hu=>Rfs.rlimit_fresh q.An q.Au q.d1 q.d2 q.cl q.cu mz mv W hn hu hv.out.cr ⟨by omega,by omega⟩ (by omega) hV
    unfold Rfs.MadeLimR at RS;rw[←hcc,←hCL,←M1.out.l5,←M1.out.l6]at RS;simp only[←hnC]at RS;have HNC:=κ hnC;have hgl:=κ ((Rm_lt M1.out).1);have hfar:=κ ((Rm_lt M1.out).2);have HG:=κ hv.out.cr;have HN1:=κ M1.out.l5;have HN2:=κ M1.out.l6;clear hcc hCL hnC;have hd0:Below w1.heap.size w1 w1.drew:=Below.drew ψ;have M0':=κ (Rm_below M1.out hd0);have O0':=κ (Blk.below' O2.out hd0);let T258:World→Prop:=fun w'=>w'.cell? (α g 8)=some (.slice q.An q.n1 q.d1)∧w'.cell? (α g 9)=some (.slice q.Au q.n2 q.d2)∧w'.cell? (α gO 10)=some (ι mz)∧w'.cell? (α gO 11)=some (ι mv)
    have HT:Hid (T258 (w1.drew)):=⟨M0'.out.blk.cell 8,M0'.out.blk.cell 9,O0'.out.cell 10,O0'.out.cell 11⟩;have HD0:=κ hd0;clear hd0
    go_upto_region 17 with fail
    clear o0 o1 o2 o3 o4 o5 o6 o7 o8 o9 o10 o11 o12 o13 o14
    go_cut [6,7] (fun sS sC wx=> ∃(gS:Nat) (A5 A6:Option Addr) (d5 d6:Nat),sS= .pointer (some (α gS 0))∧sC= ι cc∧Hid (Blk wx gS 102 (vS A5 nC d5 A6 q.n2 d6))∧Hid (Nds wx wx.heap.size A5 CL)∧Hid (Ris wx wx.heap.size A6 q.cu)∧Hid (A5=q.An∨ ∀a,A5=some a→w1.heap.size≤a.block)∧Hid (A6=q.Au∨ ∀a,A6=some a→w1.heap.size≤a.block)∧Hid (Below w1.heap.size w1 wx))
    case first=>
     refine Ω T258 [15] ?_;refine jA 0 HT.out ?_;refine jA 1 HT.out ?_;refine jA 2 HT.out ?_;refine jB 3 HT.out ?_;refine jA 4 HT.out ?_;refine jA 5 HT.out ?_;refine jB 6 HT.out ?_;refine jA 7 HT.out ?_;refine jA 8 HT.out ?_;refine jB 9 HT.out ?_;refine Rbc.wpL_two (m:=10) (n:=14) (by kernel_rfl) rfl rfl ?_ ?_
     ·intro K' hK;go_simp;refine(RS _ (κ (Rd.below' M1.out.cn HD0.out HD0.out.size)) (κ (Rd.below' M1.out.cr HD0.out HD0.out.size))).mono ?_;rintro e w4 ⟨A5,d5,A6,d6,rfl,hn5,hu5,hb4,fa5,fb5⟩;have HB4:=κ (CrdB.below_step HD0.out hb4);have M4:=κ (Rm_below M1.out HB4.out);have O4:=κ (Blk.below' O2.out HB4.out);have HT2:Hid (T258 w4):=⟨M4.out.blk.cell 8,M4.out.blk.cell 9,O4.out.cell 10,O4.out.cell 11⟩;have N5:=κ hn5;have R5:=κ hu5;have F5:Hid (A5=q.An∨ ∀a,A5=some a→w1.heap.size≤a.block):=fa5;have F6:Hid (A6=q.Au∨ ∀a,A6=some a→w1.heap.size≤a.block):=fb5;clear hn5 hu5 hb4 fa5 fb5
      go_wp2_with fail
      refine hK.out _ _ HT2.out ?_;clear hK K';refine jP ?_;refine jA 11 HT2.out ?_;refine jA 12 HT2.out ?_;refine jA 13 HT2.out ?_;have HBb:=κ (HB4.out.alloc HB4.out.size (.cells (vS none 0 0 none 0 0) 102));have Mb:=κ (Rm_below M1.out HBb.out);have Ob:=κ (Blk.below' O2.out HBb.out);have HTb:Hid (T258 (w4.alloc (.cells (vS none 0 0 none 0 0) 102))):=⟨Mb.out.blk.cell 8,Mb.out.blk.cell 9,Ob.out.cell 10,Ob.out.cell 11⟩;refine jN 14 fun K' hK=>?_
      go_simp;refine hK.out _ _ HTb.out ?_;clear hK K';refine jP ?_;refine jV 15 fun K' hK=>?_
      go_simp;refine hK.out _ _ ?_;clear hK K';refine jP ?_;refine jZ 16 ?_;refine Δ ?_;have hT:=κ (Blk.fresh w4 102 (vS A5 nC d5 A6 q.n2 d6));have hU:=β w4 (.cells (vS A5 nC d5 A6 q.n2 d6) 102)
      go_wp2_with fail
      go_meet;exact⟨w4.heap.size,A5,A6,d5,d6,rfl,rfl,hT,Rd.below' N5.out hU hU.size,Rd.below' R5.out hU hU.size,F5,F6,CrdB.below_step HB4.out hU⟩
     ·intro K' hK;have HBa:=κ (HD0.out.alloc HD0.out.size (.cells (vS none 0 0 none 0 0) 102));have Ma:=κ (Rm_below M1.out HBa.out);have Oa:=κ (Blk.below' O2.out HBa.out);have HTa:Hid (T258 (w1.drew.alloc (.cells (vS none 0 0 none 0 0) 102))):=⟨Ma.out.blk.cell 8,Ma.out.blk.cell 9,Oa.out.cell 10,Oa.out.cell 11⟩;have Sa:Hid (Blk (w1.drew.alloc (.cells (vS none 0 0 none 0 0) 102)) w1.heap.size 102 (vS none 0 0 none 0 0)):=Blk.fresh w1.drew _ _;go_simp;refine hK.out _ _ HTa.out ?_;clear hK K';refine jP ?_;refine jN 10 fun K' hK=>?_
      go_simp;refine(RS _ (κ (Rd.below' M1.out.cn HBa.out HBa.out.size)) (κ (Rd.below' M1.out.cr HBa.out HBa.out.size))).mono ?_;rintro e w4 ⟨A5,d5,A6,d6,rfl,hn5,hu5,hb4,fa5,fb5⟩;have HB4:=κ (CrdB.below_step HBa.out hb4);have M4:=κ (Rm_below M1.out HB4.out);have O4:=κ (Blk.below' O2.out HB4.out);have HT2:Hid (T258 w4):=⟨M4.out.blk.cell 8,M4.out.blk.cell 9,O4.out.cell 10,O4.out.cell 11⟩;have N5:=κ hn5;have R5:=κ hu5;have S4:=κ (Blk.below' Sa.out hb4);have h9:(w1.drew.alloc (.cells (vS none 0 0 none 0 0) 102)).heap.size=w1.heap.size+1:=World.size_alloc _ _;have G5:Hid (A5=q.An∨ ∀a,A5=some a→w1.heap.size+1≤a.block):=by rw[h9]at fa5;exact fa5
      have G6:Hid (A6=q.Au∨ ∀a,A6=some a→w1.heap.size+1≤a.block):=by rw[h9]at fb5;exact fb5
      clear hn5 hu5 hb4 fa5 fb5 h9;obtain⟨p0,p1,p2,p3⟩:=q2b S4.out;have p4:=χ ((blk_st S4.out 0 (.slice A5 nC d5)).cell 1);have p5:=(blk_st S4.out 0 (.slice A5 nC d5)).thaw 1
      go_wp2_with fail
      refine hK.out _ _ HT2.out ?_;clear hK K';refine jP ?_;refine jA 11 HT2.out ?_;refine jA 12 HT2.out ?_;refine jA 13 HT2.out ?_;refine jV 15 fun K' hK=>?_
      go_simp;refine hK.out _ _ ?_;clear hK K';refine jP ?_;refine jZ 16 ?_;refine Δ ?_;have e5:=hne_new (ys:=[]) M1.out.cn (Rmr.nds_ne HG.out.one) G5.out;have e6:=hne_new (ys:=[]) M1.out.cr (Rmr.ints_ne (by show 1≤q.cu.length;rw[HG.out.len];exact HG.out.one)) G6.out;have hT:Hid (Blk (st2 w4 w1.heap.size (.slice A5 nC d5) (.slice A6 q.n2 d6)) w1.heap.size 102 (vS A5 nC d5 A6 q.n2 d6)):=st2_blk S4.out;have hN:Hid (Nds (st2 w4 w1.heap.size (.slice A5 nC d5) (.slice A6 q.n2 d6)) (st2 w4 w1.heap.size (.slice A5 nC d5) (.slice A6 q.n2 d6)).heap.size A5 CL):=Rd.keep' (Rd.keep' N5.out (Nat.lt_succ_self _) e5 _) (Nat.lt_succ_self _) e5 _;have hR:Hid (Ris (st2 w4 w1.heap.size (.slice A5 nC d5) (.slice A6 q.n2 d6)) (st2 w4 w1.heap.size (.slice A5 nC d5) (.slice A6 q.n2 d6)).heap.size A6 q.cu):=Rd.keep' (Rd.keep' R5.out (Nat.lt_succ_self _) e6 _) (Nat.lt_succ_self _) e6 _;have hB:Hid (Below w1.heap.size w1 (st2 w4 w1.heap.size (.slice A5 nC d5) (.slice A6 q.n2 d6))):=st2_below HB4.out τ;have F5:Hid (A5=q.An∨ ∀a,A5=some a→w1.heap.size≤a.block):=G5.out.imp id (fun hf a ha=>by have:=hf a ha;omega);have F6:Hid (A6=q.Au∨ ∀a,A6=some a→w1.heap.size≤a.block):=G6.out.imp id (fun hf a ha=>by have:=hf a ha;omega);clear p0 p1 p2 p3 p4 p5 e5 e6
      go_wp2_with fail
      go_meet;exact⟨w1.heap.size,A5,A6,d5,d6,rfl,rfl,hT,hN,hR,F5,F6,hB⟩
    case rest=>
     obtain⟨gS,A5,A6,d5,d6,rfl,rfl,S6,N6,R6,F5,F6,HB6⟩:=hcut
     rename World=>w6
     have M6:=κ (Rm_below M1.out HB6.out);have HNN:=κ (Rmr.nds_ne HG.out.one);have HNU:=κ (Rmr.ints_ne (by show 1≤q.cu.length;rw[HG.out.len];exact HG.out.one))
     have fA5:Far g q.Ab A5 (nds CL):=by
      rcases F5.out with e|e
      ·rw[e];exact Rmr.far_same M1.out.f4 HNN.out
      ·exact Far_new hgl.out hfar.out e
     have fA6:Far g q.Ab A6 (ints q.cu):=by
      rcases F6.out with e|e
      ·rw[e];exact M1.out.f5
      ·exact Far_new hgl.out hfar.out e
     have M10:Hid (Rm base ((w6.setCell (α g 8) (.slice A5 nC d5)).setCell (α g 9) (.slice A6 q.n2 d6)) g {q with An:=A5,Au:=A6,n1:=nC,n2:=q.n2,d1:=d5,d2:=d6,cl:=CL,cu:=q.cu}):=Rm_cr M6.out N6.out R6.out fA5 fA6 HNC.out HN2.out
     have hzz: ∀z,z<w1.heap.size→Mz z g q→Mz z g {q with An:=A5,Au:=A6,n1:=nC,n2:=q.n2,d1:=d5,d2:=d6,cl:=CL,cu:=q.cu}:=by
      intro z hz h9
      have z4':FarE z A5 (nds CL):=by
       rcases F5.out with e|e
       ·rw[e];exact Rmr.farE_same h9.z4 HNN.out
       ·exact FarE_new hz e
      have z5':FarE z A6 (ints q.cu):=by
       rcases F6.out with e|e
       ·rw[e];exact h9.z5
       ·exact FarE_new hz e
      exact⟨h9.ne,h9.z1,h9.z2,h9.z3,z4',z5',h9.zx⟩
     have HU:=κ (madeDr_up (co:=0) (code:=cc) (id:=0) (w':=((w6.setCell (α g 8) (.slice A5 nC d5)).setCell (α g 9) (.slice A6 q.n2 d6))) (q':={q with An:=A5,Au:=A6,n1:=nC,n2:=q.n2,d1:=d5,d2:=d6,cl:=CL,cu:=q.cu}) (p:=plO {q with cl:=CL}) (outs:=[]) (Ao:=none) (no:=0) U1 HGZ Z2 MZ M1 ⟨rfl,.inl rfl,fun a ha=>(by cases ha),M10.out,rfl,rfl,Kp_setg (Kp_setg (Kp_of_below HB6.out) 8 _) 9 _,hzz,hcq.out⟩);have K6:=κ M6.out.blk;obtain⟨s0,s1,s2,s3⟩:=q2b S6.out;have k8:=K6.out.cell 8;have f8:=K6.out.thaw 8;have f9:=K6.out.thaw 9;have k9:=K6.out.cell 9;have x9:(w6.setCell (α g 8) (.slice A5 nC d5)).cell? (α g 9)=some (.slice q.Au q.n2 q.d2):=(blk_st K6.out 8 (.slice A5 nC d5)).cell 9;have y9:=(blk_st K6.out 8 (.slice A5 nC d5)).thaw 9;simp only[mqV,List.getElem?_toArray,List.getElem?_cons_succ,List.getElem?_cons_zero]at k8 k9;clear fA5 fA6 hzz
     go_upto_region 19 with fail
     clear s0 s1 s2 s3 k8 k9 f8 f9 x9 y9 K6 M6;generalize ((w6.setCell (α g 8) (.slice A5 nC d5)).setCell (α g 9) (.slice A6 q.n2 d6))=w9 at M10 HU ⊢;have F3:Blk (st2 w9 gZ (ι cc) (ι (0))) gZ 67 (vI cc (0)):=st2_blk HU.out.1;have HF:=κ HU.out.2;obtain⟨z0,z1,z2,z3⟩:=q2b HU.out.1;have zx:=χ ((blk_st HU.out.1 0 (ι cc)).cell 1);clear HU
     go_wp2_with fail
     obtain⟨e0,e1,_,_⟩:=q2b F3;clear F3;unfold st2 at e0 e1 HF;exact bodyPost_ret (v:= .tuple #[.agg #[ι cc,ι (0)],.slice none 0 0]) (by simp[results,Tryz.results15,go_sem,e0,e1]) rfl (by rw[HD.out,HK.out];exact HF.out)
end Rmd
end Go.Proofs.YtfbajlcljfjbkaaGreat
