/- Texts side by side. -/
import Derived.Test.YtfbajlcljfjbkaaGreatUniaw
import Derived.Test.YtfbajlcljfjbkaaGreatUniaz
set_option linter.unusedVariables false
set_option linter.unusedSimpArgs false
set_option maxRecDepth 100000
set_option maxHeartbeats 16000000
namespace Go.Proofs.YtfbajlcljfjbkaaGreat
open Kap Abv Go.ChangeShapes Go.WideShapes Go.ChangeAt Go.RowKit Mem Tre Ref3 Law3 Fix3 Crd CrdB CrdC Rr4
namespace Mdd
open Cfg Bkp Bks Bkf Bcl Dlk Stk Apt Bko Bku Bka Bkc Bkq Wpl Mdp Mdz Mds Mdn Mdo Mdk Mdr Mdj Mdl Mdy Lat
open Rul1 hiding below_step
structure Opn where
 m:M
 sw:Bool
 sx:Int
 ex:Int
def kilF(p:Pm):Pm×(Int×Int×List (Int×Int)):=({p with off:=true},(0,p.ep,[]))
def reaF(p:Pm):Pm×(Int×Int×List (Int×Int)):=((rearmF p).1,((rearmF p).2.1,(rearmF p).2.2,[]))
def doF(p:Pm)(o:Opn):Pm×(Int×Int×List (Int×Int)):=
 if o.sw=true then swpF p o.sx o.ex
 else if rightM o.m=false then (p,(1,0,[]))
 else if o.m.k=0 then ordF p ⟨o.m.a,o.m.s,o.m.x,o.m.p,o.m.q,o.m.n,o.m.t⟩
 else if o.m.k=1 then canF p o.m.i
 else if o.m.k=2 then filF p o.m.i o.m.y
 else if o.m.k=3 then akF p o.m.i
 else if o.m.k=4 then kilF p
 else if o.m.k=5 then reaF p
 else lmtF p o.m.z o.m.v
variable {g:Nat} {p:Pm}
theorem do_sw{o:Opn}(h:o.sw=true):doF p o=swpF p o.sx o.ex:=by unfold doF;rw[if_pos h]
theorem do_bad{o:Opn}(h:o.sw=false)(hr:rightM o.m=false):doF p o=(p,(1,0,[])):=by unfold doF;rw[if_neg (by rw[h];decide),if_pos hr]
theorem do_0{o:Opn}(h:o.sw=false)(hr:rightM o.m=true)(hk:o.m.k=0):doF p o=ordF p ⟨o.m.a,o.m.s,o.m.x,o.m.p,o.m.q,o.m.n,o.m.t⟩:=by unfold doF;rw[if_neg (by rw[h];decide),if_neg (by rw[hr];decide),if_pos hk]
theorem do_1{o:Opn}(h:o.sw=false)(hr:rightM o.m=true)(hk:o.m.k=1):doF p o=canF p o.m.i:=by unfold doF;rw[if_neg (by rw[h];decide),if_neg (by rw[hr];decide),if_neg (by rw[hk];decide),if_pos hk]
theorem do_2{o:Opn}(h:o.sw=false)(hr:rightM o.m=true)(hk:o.m.k=2):doF p o=filF p o.m.i o.m.y:=by unfold doF;rw[if_neg (by rw[h];decide),if_neg (by rw[hr];decide),if_neg (by rw[hk];decide),if_neg (by rw[hk];decide),if_pos hk]
theorem do_3{o:Opn}(h:o.sw=false)(hr:rightM o.m=true)(hk:o.m.k=3):doF p o=akF p o.m.i:=by unfold doF;rw[if_neg (by rw[h];decide),if_neg (by rw[hr];decide),if_neg (by rw[hk];decide),if_neg (by rw[hk];decide),if_neg (by rw[hk];decide),if_pos hk]
theorem do_4{o:Opn}(h:o.sw=false)(hr:rightM o.m=true)(hk:o.m.k=4):doF p o=kilF p:=by unfold doF;rw[if_neg (by rw[h];decide),if_neg (by rw[hr];decide),if_neg (by rw[hk];decide),if_neg (by rw[hk];decide),if_neg (by rw[hk];decide),if_neg (by rw[hk];decide),if_pos hk]
theorem do_5{o:Opn}(h:o.sw=false)(hr:rightM o.m=true)(hk:o.m.k=5):doF p o=reaF p:=by unfold doF;rw[if_neg (by rw[h];decide),if_neg (by rw[hr];decide),if_neg (by rw[hk];decide),if_neg (by rw[hk];decide),if_neg (by rw[hk];decide),if_neg (by rw[hk];decide),if_neg (by rw[hk];decide),if_pos hk]
theorem do_6{o:Opn}(h:o.sw=false)(hr:rightM o.m=true)(hk:o.m.k=6):doF p o=lmtF p o.m.z o.m.v:=by unfold doF;rw[if_neg (by rw[h];decide),if_neg (by rw[hr];decide),if_neg (by rw[hk];decide),if_neg (by rw[hk];decide),if_neg (by rw[hk];decide),if_neg (by rw[hk];decide),if_neg (by rw[hk];decide),if_neg (by rw[hk];decide)]
theorem q15_of{W:World}{te:TypeId}{v0 v1 v2 v3 v4 v5 v6 v7 v8 v9 v10 v11 v12 v13 v14:Value}(hk:Blk W g te #[v0,v1,v2,v3,v4,v5,v6,v7,v8,v9,v10,v11,v12,v13,v14]):W.cell? ⟨g,0,none⟩=some v0∧W.cell? ⟨g,1,none⟩=some v1∧W.cell? ⟨g,2,none⟩=some v2∧W.cell? ⟨g,3,none⟩=some v3∧W.cell? ⟨g,4,none⟩=some v4∧W.cell? ⟨g,5,none⟩=some v5∧W.cell? ⟨g,6,none⟩=some v6∧W.cell? ⟨g,7,none⟩=some v7∧W.cell? ⟨g,8,none⟩=some v8∧W.cell? ⟨g,9,none⟩=some v9∧W.cell? ⟨g,10,none⟩=some v10∧W.cell? ⟨g,11,none⟩=some v11∧W.cell? ⟨g,12,none⟩=some v12∧W.cell? ⟨g,13,none⟩=some v13∧W.cell? ⟨g,14,none⟩=some v14:=⟨hk.cell 0,hk.cell 1,hk.cell 2,hk.cell 3,hk.cell 4,hk.cell 5,hk.cell 6,hk.cell 7,hk.cell 8,hk.cell 9,hk.cell 10,hk.cell 11,hk.cell 12,hk.cell 13,hk.cell 14⟩
theorem killD(base g:Nat)(q:Mq)(w:World)(h:Hid (Mm base w g q)):Calls Tryz.prog 43 #[.pointer (some ⟨g,0,none⟩)] w (MadeDo base g q (kilF (plO q)).1 (kilF (plO q)).2.1 (kilF (plO q)).2.2.1 (kilF (plO q)).2.2.2 w):=kill_any base g q w h
theorem rearmD(base g:Nat)(q:Mq)(w:World)(h:Hid (Mm base w g q))(hep:0≤q.ep∧q.ep≤1000000000):Calls Tryz.prog 44 #[.pointer (some ⟨g,0,none⟩)] w (MadeDo base g q (reaF (plO q)).1 (reaF (plO q)).2.1 (reaF (plO q)).2.2.1 (reaF (plO q)).2.2.2 w):=rearm_any base g q w h hep
theorem madeDo_up{base gZ:Nat}{q q':Mq}{code id:Int}{outs:List (Int×Int)}{w wc w':World}{Ao:Option Addr}{no co:Nat}(U:Hid (Below w.heap.size w wc))(hgz:Hid (w.heap.size≤gZ))(Z:Hid (Blk wc gZ 56 #[.int .i64 0,.int .i64 0]))(MZ:Hid (Mz gZ g q))(M:Hid (Mm base wc g q))
  (h:no=outs.length∧Nds w' w'.heap.size Ao outs∧(∀a,Ao=some a→wc.heap.size≤a.block)∧Mm base w' g q'∧plO q'=p∧q'.Ab=q.Ab∧Kp wc w' g q.Ab∧(∀z,z<wc.heap.size→Mz z g q→Mz z g q')):
  Blk w' gZ 56 #[.int .i64 0,.int .i64 0]∧MadeDo base g q p code id outs w (.returned (.tuple #[.agg #[.int .i64 code,.int .i64 id],.slice Ao no co])) (st2 w' gZ (.int .i64 code) (.int .i64 id)):=by
 obtain⟨h1,h2,h3,h4,h5,h6,h7,h8⟩:=h;have hzl:=Z.out.lt
 have hZ:Blk w' gZ 56 (vI 0 0):=(h7.block gZ hzl MZ.out.ne (fun b hb=>by
  intro e
  exact blk_own_ne Z.out M.out.row (by decide) (by rw[hb,e];rfl))).trans Z.out
 have hm:=h8 gZ hzl MZ.out;refine⟨hZ,?_⟩;unfold st2;refine⟨q',Ao,no,co,rfl,h1,?_,fun a ha=>Nat.le_trans U.out.size (h3 a ha),Mm_setz (Mm_setz h4 hm hZ (by decide) 0 _) hm (blk_st hZ 0 _) (by decide) 1 _,h5,h6,Kp_past (Kp_past (Kp_trans (Kp_of_below U.out) h7) hgz.out 0 _) hgz.out 1 _,fun z hz hmz=>h8 z (Nat.lt_of_lt_of_le hz U.out.size) hmz⟩;exact Rd.keep' (Rd.keep' h2 (Nat.lt_succ_self _) (fun a ha=>by have:=h3 a ha;omega) _) (Nat.lt_succ_self _) (fun a ha=>by have:=h3 a ha;omega) _
theorem do_any(base g m:Nat)(q:Mq)(mk ma ms mp mq mn mt mi my mz mv sx ex:Int)(mx sw:Bool)(w:World)(h:Hid (Mm base w g q))(hv:Hid (Vq m q))(hm:m≤900)(hE:Hid (Vo q))(hep:0≤q.ep∧q.ep≤1000000000)
  (hp:inI mp)(hq:inI mq)(hy:my≤9223372036854775807)(hV:mv≤9223372036854775807)(hsx:inI sx)(hex0: -9223372036854775808≤ex)(hex1:ex≤9223372036854775807):
  Calls Tryz.prog 13 #[.pointer (some ⟨g,0,none⟩),.agg #[.int .i64 mk,.int .i64 ma,.int .i64 ms,.bool mx,.int .i64 mp,.int .i64 mq,.int .i64 mn,.int .i64 mt,.int .i64 mi,.int .i64 my,.int .i64 mz,.int .i64 mv,.bool sw,.int .i64 sx,.int .i64 ex]] w (MadeDo base g q (doF (plO q) ⟨⟨mk,ma,ms,mx,mp,mq,mn,mt,mi,my,mz,mv⟩,sw,sx,ex⟩).1 (doF (plO q) ⟨⟨mk,ma,ms,mx,mp,mq,mn,mt,mi,my,mz,mv⟩,sw,sx,ex⟩).2.1 (doF (plO q) ⟨⟨mk,ma,ms,mx,mp,mq,mn,mt,mi,my,mz,mv⟩,sw,sx,ex⟩).2.2.1 (doF (plO q) ⟨⟨mk,ma,ms,mx,mp,mq,mn,mt,mi,my,mz,mv⟩,sw,sx,ex⟩).2.2.2 w):=by
 have U0:=κ (γ w (.cells (vP mk ma ms mx mp mq mn mt mi my mz mv sw sx ex) 64) (.cells (vI 0 0) 56));have O0:=κ ((Blk.fresh w 64 (vP mk ma ms mx mp mq mn mt mi my mz mv sw sx ex)).alloc (.cells (vI 0 0) 56));have Z0:=κ (δ (w.alloc (.cells (vP mk ma ms mx mp mq mn mt mi my mz mv sw sx ex) 64)) 56 (vI 0 0) (w.heap.size+1));have M0:=κ (Mm_below h.out U0.out);have MZ0:Hid (Mz (w.heap.size+1) g q):=Mz_of h.out (by omega);obtain⟨vn,hvn⟩:=ν q.nb;have hnb0:1≤q.nb:=by have h1:=hv.out.nb;have h2:=hv.out.sh;omega
 go_enter Tryz.func13,Tryz.ntmps13
 go_upto_region 1 with fail
 obtain⟨gO,hgO⟩:=ν w.heap.size;obtain⟨gZ,hgZ⟩:=ν (w.heap.size+1);have O1:=κ (ζ hgO O0.out);have Z1:=κ (ζ hgZ Z0.out);have MZ:Hid (Mz gZ g q):=by rw[hgZ];exact MZ0.out
 have HGZ:Hid (w.heap.size≤gZ):=by show _≤_;omega
 simp only[←hgZ];simp only[←hgO];clear hgO hgZ O0 Z0 MZ0;generalize ((w.alloc (.cells (vP mk ma ms mx mp mq mn mt mi my mz mv sw sx ex) 64)).alloc (.cells (vI 0 0) 56))=w0 at O1 Z1 U0 M0 ⊢;have k7:w0.cell? (α g 7)=some (.slice q.Ab vn q.cb):=by rw[hvn];exact M0.out.blk.cell 7
 have hnb1:1≤vn:=by omega
 clear hnb0 hvn;have tn:((vn:Int)==0)=false:=by simp;omega
 obtain⟨o0,o1,o2,o3,o4,o5,o6,o7,o8,o9,o10,o11,o12,o13,o14⟩:=q15_of O1.out;have HDO:Hid (∀p o,doF p o=doF p o):=fun _ _=>rfl
 cases sw with
 |true=>
  have HD:Hid (doF (plO q) ⟨⟨mk,ma,ms,mx,mp,mq,mn,mt,mi,my,mz,mv⟩,true,sx,ex⟩=swpF (plO q) sx ex):=do_sw rfl;obtain⟨PP,cd,idv,outs,hF⟩: ∃a b c d,swpF (plO q) sx ex=(a,b,c,d):=⟨_,_,_,_,rfl⟩;have CX:=msweep_any base g m q sx ex w0 M0 hv hm hsx hex0 hex1;rw[hF]at CX;rw[hF]at HD;clear hF
  go_wp2_with fail
  refine CX.mono ?_;rintro e w9 ⟨q',Ao,no,co,rfl,hrest⟩;have HU:=madeDo_up (co:=co) (code:=cd) (id:=idv) U0 HGZ Z1 MZ M0 hrest;have F3:Blk (st2 w9 gZ (ι cd) (ι idv)) gZ 56 (vI cd idv):=st2_blk HU.1;have HF:=κ HU.2;obtain⟨z0,z1,z2,z3⟩:=q2b HU.1;have zx:=χ ((blk_st HU.1 0 (ι cd)).cell 1);clear HU hrest CX
  go_wp2_with fail
  obtain⟨e0,e1,_,_⟩:=q2b F3;clear F3;unfold st2 at e0 e1 HF;exact bodyPost_ret (v:= .tuple #[.agg #[ι cd,ι idv],.slice Ao no co]) (by simp[results,Tryz.results13,go_sem,e0,e1]) rfl (by first|exact HF.out|(rw[HD.out];exact HF.out))
 |false=>
  have RG:=Wrt.right_any ⟨mk,ma,ms,mx,mp,mq,mn,mt,mi,my,mz,mv⟩ w0;simp only[mvl]at RG
  go_upto_region 5 with fail
  go_wp2_with fail
  refine RG.mono ?_;rintro e w1 ⟨rfl,hb1⟩;have U1:=κ (CrdB.below_step U0.out hb1);have O2:=κ (Blk.below' O1.out hb1);have Z2:=κ (Blk.below' Z1.out hb1);have M1:=κ (Mm_below M0.out hb1);clear hb1 o0 o1 o2 o3 o4 o5 o6 o7 o8 o9 o10 o11 o12 o13 o14 k7 RG O1;by_cases hr:rightM ⟨mk,ma,ms,mx,mp,mq,mn,mt,mi,my,mz,mv⟩=true
  case neg=>
   have hr':rightM ⟨mk,ma,ms,mx,mp,mq,mn,mt,mi,my,mz,mv⟩=false:=by simpa using hr
   rw[hr'];have HD:Hid (doF (plO q) ⟨⟨mk,ma,ms,mx,mp,mq,mn,mt,mi,my,mz,mv⟩,false,sx,ex⟩=(plO q,(1,0,[]))):=do_bad rfl hr'
   go_wp2_with fail
   refine(refused_any 1 _).mono ?_;rintro e w9 ⟨rfl,hb9⟩;have HU:=madeDo_up (co:=0) (code:=1) (id:=0) (w':=w9) (q':=q) (p:=plO q) (outs:=[]) (Ao:=none) (no:=0) U1 HGZ Z2 MZ M1 ⟨rfl,.inl rfl,fun a ha=>(by cases ha),Mm_below M1.out hb9,rfl,rfl,Kp_of_below hb9,fun z _ h=>h⟩;have F3:Blk (st2 w9 gZ (ι 1) (ι 0)) gZ 56 (vI 1 0):=st2_blk HU.1;have HF:=κ HU.2;obtain⟨z0,z1,z2,z3⟩:=q2b HU.1;have zx:=χ ((blk_st HU.1 0 (ι 1)).cell 1);clear HU hb9
   go_wp2_with fail
   obtain⟨e0,e1,_,_⟩:=q2b F3;clear F3;unfold st2 at e0 e1 HF;exact bodyPost_ret (v:= .tuple #[.agg #[ι 1,ι 0],.slice none 0 0]) (by simp[results,Tryz.results13,go_sem,e0,e1]) rfl (by first|exact HF.out|(rw[HD.out];exact HF.out))
  case pos=>
   rw[hr];obtain⟨hk0,hk6,heq,hfit⟩:=rightM_of hr;have HR:=κ hr;unfold fitP at hfit;simp only at hk0 hk6 hfit;obtain⟨⟨fa0,fa1⟩,⟨fs0,fs1⟩,⟨fz0,fz1⟩,⟨fi0,fi1⟩,fp,fq,fn,ft,fy,fv⟩:=hfit;clear heq hr;obtain⟨o0,o1,o2,o3,o4,o5,o6,o7,o8,o9,o10,o11,o12,o13,o14⟩:=q15_of O2.out;have V2:=β w1 (.cells (vM mk ma ms mx mp mq mn mt mi my mz mv) 62);have N2:=κ (Blk.fresh w1 62 (vM mk ma ms mx mp mq mn mt mi my mz mv));have U2:=κ (CrdB.below_step U1.out V2);have Z3:=κ (Blk.below' Z2.out V2);have M2:=κ (Mm_below M1.out V2);clear V2
   go_upto_region 8 with fail
   obtain⟨gN,hgN⟩:=ν w1.heap.size;have N3:=κ (ζ hgN N2.out);simp only[←hgN];clear hgN N2 o0 o1 o2 o3 o4 o5 o6 o7 o8 o9 o10 o11 o12 o13 o14;generalize w1.alloc (.cells (vM mk ma ms mx mp mq mn mt mi my mz mv) 62)=w2 at U2 Z3 M2 N3 ⊢;obtain⟨j0,j1,j2,j3,j4,j5,j6,j7,j8,j9,j10,j11,h0,h1,h2,h3,h4,h5,h6,h7,h8,h9,h10,h11⟩:=q12_of N3.out;have hk:mk=0∨mk=1∨mk=2∨mk=3∨mk=4∨mk=5∨mk=6:=by omega
   rcases hk with rfl|rfl|rfl|rfl|rfl|rfl|rfl
   ·have HD:Hid (doF (plO q) ⟨⟨0,ma,ms,mx,mp,mq,mn,mt,mi,my,mz,mv⟩,false,sx,ex⟩=ordF (plO q) ⟨ma,ms,mx,mp,mq,mn,mt⟩):=do_0 rfl HR.out rfl;obtain⟨PP,cd,idv,outs,hF⟩: ∃a b c d,ordF (plO q) ⟨ma,ms,mx,mp,mq,mn,mt⟩=(a,b,c,d):=⟨_,_,_,_,rfl⟩;have CX:=order_any base g m q ma ms mp mq mn mt mx w2 M2 hv hm hp hq;rw[hF]at CX;rw[hF]at HD;clear hF
    go_wp2_with fail
    refine CX.mono ?_;rintro e w9 ⟨q',Ao,no,co,rfl,hrest⟩;have HU:=madeDo_up (co:=co) (code:=cd) (id:=idv) U2 HGZ Z3 MZ M2 hrest;have F3:Blk (st2 w9 gZ (ι cd) (ι idv)) gZ 56 (vI cd idv):=st2_blk HU.1;have HF:=κ HU.2;obtain⟨z0,z1,z2,z3⟩:=q2b HU.1;have zx:=χ ((blk_st HU.1 0 (ι cd)).cell 1);clear HU hrest CX
    go_wp2_with fail
    obtain⟨e0,e1,_,_⟩:=q2b F3;clear F3;unfold st2 at e0 e1 HF;exact bodyPost_ret (v:= .tuple #[.agg #[ι cd,ι idv],.slice Ao no co]) (by simp[results,Tryz.results13,go_sem,e0,e1]) rfl (by first|exact HF.out|(rw[HD.out];exact HF.out))
   ·have HD:Hid (doF (plO q) ⟨⟨1,ma,ms,mx,mp,mq,mn,mt,mi,my,mz,mv⟩,false,sx,ex⟩=canF (plO q) mi):=do_1 rfl HR.out rfl;obtain⟨PP,cd,idv,outs,hF⟩: ∃a b c d,canF (plO q) mi=(a,b,c,d):=⟨_,_,_,_,rfl⟩;have CX:=mcancel_any base g m q mi w2 M2 hv hm fi0 (by omega);rw[hF]at CX;rw[hF]at HD;clear hF
    go_wp2_with fail
    refine CX.mono ?_;rintro e w9 ⟨q',Ao,no,co,rfl,hrest⟩;have HU:=madeDo_up (co:=co) (code:=cd) (id:=idv) U2 HGZ Z3 MZ M2 hrest;have F3:Blk (st2 w9 gZ (ι cd) (ι idv)) gZ 56 (vI cd idv):=st2_blk HU.1;have HF:=κ HU.2;obtain⟨z0,z1,z2,z3⟩:=q2b HU.1;have zx:=χ ((blk_st HU.1 0 (ι cd)).cell 1);clear HU hrest CX
    go_wp2_with fail
    obtain⟨e0,e1,_,_⟩:=q2b F3;clear F3;unfold st2 at e0 e1 HF;exact bodyPost_ret (v:= .tuple #[.agg #[ι cd,ι idv],.slice Ao no co]) (by simp[results,Tryz.results13,go_sem,e0,e1]) rfl (by first|exact HF.out|(rw[HD.out];exact HF.out))
   ·have HD:Hid (doF (plO q) ⟨⟨2,ma,ms,mx,mp,mq,mn,mt,mi,my,mz,mv⟩,false,sx,ex⟩=filF (plO q) mi my):=do_2 rfl HR.out rfl;obtain⟨PP,cd,idv,outs,hF⟩: ∃a b c d,filF (plO q) mi my=(a,b,c,d):=⟨_,_,_,_,rfl⟩;have CX:=mfill_any base g m q mi my w2 M2 hv hm fi0 (by omega) hy hE;rw[hF]at CX;rw[hF]at HD;clear hF
    go_wp2_with fail
    refine CX.mono ?_;rintro e w9 ⟨q',Ao,no,co,rfl,hrest⟩;have HU:=madeDo_up (co:=co) (code:=cd) (id:=idv) U2 HGZ Z3 MZ M2 hrest;have F3:Blk (st2 w9 gZ (ι cd) (ι idv)) gZ 56 (vI cd idv):=st2_blk HU.1;have HF:=κ HU.2;obtain⟨z0,z1,z2,z3⟩:=q2b HU.1;have zx:=χ ((blk_st HU.1 0 (ι cd)).cell 1);clear HU hrest CX
    go_wp2_with fail
    obtain⟨e0,e1,_,_⟩:=q2b F3;clear F3;unfold st2 at e0 e1 HF;exact bodyPost_ret (v:= .tuple #[.agg #[ι cd,ι idv],.slice Ao no co]) (by simp[results,Tryz.results13,go_sem,e0,e1]) rfl (by first|exact HF.out|(rw[HD.out];exact HF.out))
   ·have HD:Hid (doF (plO q) ⟨⟨3,ma,ms,mx,mp,mq,mn,mt,mi,my,mz,mv⟩,false,sx,ex⟩=akF (plO q) mi):=do_3 rfl HR.out rfl;obtain⟨PP,cd,idv,outs,hF⟩: ∃a b c d,akF (plO q) mi=(a,b,c,d):=⟨_,_,_,_,rfl⟩;have CX:=mack_any base g m q mi w2 M2 hv hm fi0 (by omega) hE;rw[hF]at CX;rw[hF]at HD;clear hF
    go_wp2_with fail
    refine CX.mono ?_;rintro e w9 ⟨q',Ao,no,co,rfl,hrest⟩;have HU:=madeDo_up (co:=co) (code:=cd) (id:=idv) U2 HGZ Z3 MZ M2 hrest;have F3:Blk (st2 w9 gZ (ι cd) (ι idv)) gZ 56 (vI cd idv):=st2_blk HU.1;have HF:=κ HU.2;obtain⟨z0,z1,z2,z3⟩:=q2b HU.1;have zx:=χ ((blk_st HU.1 0 (ι cd)).cell 1);clear HU hrest CX
    go_wp2_with fail
    obtain⟨e0,e1,_,_⟩:=q2b F3;clear F3;unfold st2 at e0 e1 HF;exact bodyPost_ret (v:= .tuple #[.agg #[ι cd,ι idv],.slice Ao no co]) (by simp[results,Tryz.results13,go_sem,e0,e1]) rfl (by first|exact HF.out|(rw[HD.out];exact HF.out))
   ·have HD:Hid (doF (plO q) ⟨⟨4,ma,ms,mx,mp,mq,mn,mt,mi,my,mz,mv⟩,false,sx,ex⟩=kilF (plO q)):=do_4 rfl HR.out rfl;obtain⟨PP,cd,idv,outs,hF⟩: ∃a b c d,kilF (plO q)=(a,b,c,d):=⟨_,_,_,_,rfl⟩;have CX:=killD base g q w2 M2;rw[hF]at CX;rw[hF]at HD;clear hF
    go_wp2_with fail
    refine CX.mono ?_;rintro e w9 ⟨q',Ao,no,co,rfl,hrest⟩;have HU:=madeDo_up (co:=co) (code:=cd) (id:=idv) U2 HGZ Z3 MZ M2 hrest;have F3:Blk (st2 w9 gZ (ι cd) (ι idv)) gZ 56 (vI cd idv):=st2_blk HU.1;have HF:=κ HU.2;obtain⟨z0,z1,z2,z3⟩:=q2b HU.1;have zx:=χ ((blk_st HU.1 0 (ι cd)).cell 1);clear HU hrest CX
    go_wp2_with fail
    obtain⟨e0,e1,_,_⟩:=q2b F3;clear F3;unfold st2 at e0 e1 HF;exact bodyPost_ret (v:= .tuple #[.agg #[ι cd,ι idv],.slice Ao no co]) (by simp[results,Tryz.results13,go_sem,e0,e1]) rfl (by first|exact HF.out|(rw[HD.out];exact HF.out))
   ·have HD:Hid (doF (plO q) ⟨⟨5,ma,ms,mx,mp,mq,mn,mt,mi,my,mz,mv⟩,false,sx,ex⟩=reaF (plO q)):=do_5 rfl HR.out rfl;obtain⟨PP,cd,idv,outs,hF⟩: ∃a b c d,reaF (plO q)=(a,b,c,d):=⟨_,_,_,_,rfl⟩;have CX:=rearmD base g q w2 M2 hep;rw[hF]at CX;rw[hF]at HD;clear hF
    go_wp2_with fail
    refine CX.mono ?_;rintro e w9 ⟨q',Ao,no,co,rfl,hrest⟩;have HU:=madeDo_up (co:=co) (code:=cd) (id:=idv) U2 HGZ Z3 MZ M2 hrest;have F3:Blk (st2 w9 gZ (ι cd) (ι idv)) gZ 56 (vI cd idv):=st2_blk HU.1;have HF:=κ HU.2;obtain⟨z0,z1,z2,z3⟩:=q2b HU.1;have zx:=χ ((blk_st HU.1 0 (ι cd)).cell 1);clear HU hrest CX
    go_wp2_with fail
    obtain⟨e0,e1,_,_⟩:=q2b F3;clear F3;unfold st2 at e0 e1 HF;exact bodyPost_ret (v:= .tuple #[.agg #[ι cd,ι idv],.slice Ao no co]) (by simp[results,Tryz.results13,go_sem,e0,e1]) rfl (by first|exact HF.out|(rw[HD.out];exact HF.out))
   ·have HD:Hid (doF (plO q) ⟨⟨6,ma,ms,mx,mp,mq,mn,mt,mi,my,mz,mv⟩,false,sx,ex⟩=lmtF (plO q) mz mv):=do_6 rfl HR.out rfl;obtain⟨PP,cd,idv,outs,hF⟩: ∃a b c d,lmtF (plO q) mz mv=(a,b,c,d):=⟨_,_,_,_,rfl⟩;have CX:=mlimit_any base g m q mz mv w2 M2 hv hm ⟨by omega,by omega⟩ (by omega) hV;rw[hF]at CX;rw[hF]at HD;clear hF
    go_wp2_with fail
    refine CX.mono ?_;rintro e w9 ⟨q',Ao,no,co,rfl,hrest⟩;have HU:=madeDo_up (co:=co) (code:=cd) (id:=idv) U2 HGZ Z3 MZ M2 hrest;have F3:Blk (st2 w9 gZ (ι cd) (ι idv)) gZ 56 (vI cd idv):=st2_blk HU.1;have HF:=κ HU.2;obtain⟨z0,z1,z2,z3⟩:=q2b HU.1;have zx:=χ ((blk_st HU.1 0 (ι cd)).cell 1);clear HU hrest CX
    go_wp2_with fail
    obtain⟨e0,e1,_,_⟩:=q2b F3;clear F3;unfold st2 at e0 e1 HF;exact bodyPost_ret (v:= .tuple #[.agg #[ι cd,ι idv],.slice Ao no co]) (by simp[results,Tryz.results13,go_sem,e0,e1]) rfl (by first|exact HF.out|(rw[HD.out];exact HF.out))
end Mdd
namespace Sm4
open Cpl Own Res
theorem same_any(A A' B B':Option Addr)(c c' d d':Nat)(l:List (Int×Int))(u:List Int)(w:World)(hl:Hid (Nds w w.heap.size A l))(hu:Hid (Ris w w.heap.size A' u))(hl2:Hid (Nds w w.heap.size B l))(hu2:Hid (Ris w w.heap.size B' u))(hmax:(l.length:Int)≤1000000)(hmay:(u.length:Int)≤1000000):
  Calls Tryz.prog 34 #[.agg #[.slice A l.length c,.slice A' u.length c'],.agg #[.slice B l.length d,.slice B' u.length d']] w (MadeB true w):=by
 have b0:=γ w (.cells (vS A l.length c A' u.length c') 102) (.cells (vS B l.length d B' u.length d') 102);have k1:=κ ((Blk.fresh w 102 (vS A l.length c A' u.length c')).alloc (.cells (vS B l.length d B' u.length d') 102))
 have k2:Hid (Blk ((w.alloc (.cells (vS A l.length c A' u.length c') 102)).alloc (.cells (vS B l.length d B' u.length d') 102)) (w.heap.size+1) 102 (vS B l.length d B' u.length d')):=by
  have:=Blk.fresh (w.alloc (.cells (vS A l.length c A' u.length c') 102)) 102 (vS B l.length d B' u.length d');simp only[World.size_alloc]at this;exact this
 have l0:=θ hl.out b0;have u0:=η hu.out b0;have l2:=θ hl2.out b0;have u2:=η hu2.out b0;have e1:((l.length:Int) != (l.length:Int))=false:=by simp
 have e2:((u.length:Int) != (u.length:Int))=false:=by simp
 have hsz:w.heap.size<((w.alloc (.cells (vS A l.length c A' u.length c') 102)).alloc (.cells (vS B l.length d B' u.length d') 102)).heap.size:=by simp;omega
 go_enter Tryz.func34,Tryz.ntmps34
 go_wp2_with fail
 generalize ((w.alloc (.cells (vS A l.length c A' u.length c') 102)).alloc (.cells (vS B l.length d B' u.length d') 102))=W1 at b0 k1 k2 l0 u0 l2 u2 ⊢;have f0:=χ (k1.out.cell 0);have f1:=χ (k1.out.cell 1);have f2:=χ (k2.out.cell 0);have f3:=χ (k2.out.cell 1)
 go_loopg [5] l.length (fun g s5 w'=> ∃(k nq:Nat),k+g=l.length∧s5= ι k∧w'=W1.drewN nq)
 case atStart=>exact⟨0,0,by omega,rfl,rfl⟩
 case round=>
  obtain⟨k,nq,hk,rfl,rfl⟩:=hrel;by_cases hlt:(k:Int)<(l.length:Int)
  ·obtain⟨g,rfl⟩: ∃g,gk=g+1:=⟨gk-1,by omega⟩;obtain⟨b1,o1,rfl,hb1,hc1⟩:=Nds.at l0.out (by omega);obtain⟨b2,o2,rfl,hb2,hc2⟩:=Nds.at l2.out (by omega);have d0:=(hc1 k (by omega)).1;have d1:=(hc1 k (by omega)).2;have d2:=(hc2 k (by omega)).1;have d3:=(hc2 k (by omega)).2;clear hc1 hc2;by_cases hlu:(k:Int)<(u.length:Int)
   ·obtain⟨b3,o3,rfl,hb3,hc3⟩:=Ris.at (i:=k) u0.out (by omega);obtain⟨b4,o4,rfl,hb4,hc4⟩:=Ris.at (i:=k) u2.out (by omega);have d4:=hc3 k (by omega);have d5:=hc4 k (by omega);have t1:decide ((k:Int)<(u.length:Int))=true:=by simp;omega
    have t2:decide (k<u.length)=true:=by simp;omega
    have t3:(gI u k != gI u k)=false:=by simp
    have t4:(gI u k==gI u k)=true:=by simp
    clear hc3 hc4
    go_wp2_with fail
    go_quiet (fail)
    go_wp2_with fail
    go_roundg g
    case measure=>omega
    case rel=>exact⟨k+1,_,by omega,by go_num,rfl⟩
   ·have t1:decide ((k:Int)<(u.length:Int))=false:=by simp;omega
    have t2:decide (k<u.length)=false:=by simp;omega
    go_wp2_with fail
    go_quiet (fail)
    go_wp2_with fail
    go_roundg g
    case measure=>omega
    case rel=>exact⟨k+1,_,by omega,by go_num,rfl⟩
  ·go_wp2_with fail
   go_ret;exact madeB_mk rfl (Below.drewN' b0 _)
end Sm4
end Go.Proofs.YtfbajlcljfjbkaaGreat
