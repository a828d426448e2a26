/- Texts side by side. -/
import Derived.Test.YtcccdikhfgpamaaGreatUfau
import Derived.Test.YtcccdikhfgpamaaGreatUfax
set_option linter.unusedVariables false
set_option linter.unusedSimpArgs false
set_option maxRecDepth 100000
set_option maxHeartbeats 16000000
namespace Go.Proofs.YtcccdikhfgpamaaGreat
open Kap Abv Go.ChangeShapes Go.WideShapes Go.ChangeAt Go.RowKit Mem Tre Ref3 Law3 Fix3 Cfg Crd CrdB CrdC Rr4 Bkp Bks Bkf Bcl Dlk Stk Apt Bko Bku Bka Bkc Bkq Wpl Mdp Mdz Mds Mdn Mdo Mdk Mdr Mdj Mdl Mdy Lat
namespace Mdd
open Rul1 hiding below_step
structure Opn where
 m:M
 sw:Bool
 sx:Int
 ex:Int
def kilF(p:Pm):Pm×(Int×Int×List (Int×Int)):=({p with off:=true},(0,p.ep,[]))
def reaF(p:Pm):Pm×(Int×Int×List (Int×Int)):=((rearmF p).1,((rearmF p).2.1,(rearmF p).2.2,[]))
def doF(p:Pm)(o:Opn):Pm×(Int×Int×List (Int×Int)):=
 if o.sw=true then swpF p o.sx o.ex
 else if rightM o.m=false then (p,(1,0,[]))
 else if o.m.k=0 then ordF p ⟨o.m.a,o.m.s,o.m.x,o.m.p,o.m.q,o.m.n,o.m.t⟩
 else if o.m.k=1 then canF p o.m.i
 else if o.m.k=2 then filF p o.m.i o.m.y
 else if o.m.k=3 then akF p o.m.i
 else if o.m.k=4 then kilF p
 else if o.m.k=5 then reaF p
 else lmtF p o.m.z o.m.v
variable {g:Nat} {p:Pm}
theorem do_sw{o:Opn}(h:o.sw=true):doF p o=swpF p o.sx o.ex:=by unfold doF;rw[if_pos h]
theorem do_bad{o:Opn}(h:o.sw=false)(hr:rightM o.m=false):doF p o=(p,(1,0,[])):=by unfold doF;rw[if_neg (by rw[h];decide),if_pos hr]
theorem do_0{o:Opn}(h:o.sw=false)(hr:rightM o.m=true)(hk:o.m.k=0):doF p o=ordF p ⟨o.m.a,o.m.s,o.m.x,o.m.p,o.m.q,o.m.n,o.m.t⟩:=by unfold doF;rw[if_neg (by rw[h];decide),if_neg (by rw[hr];decide),if_pos hk]
theorem do_1{o:Opn}(h:o.sw=false)(hr:rightM o.m=true)(hk:o.m.k=1):doF p o=canF p o.m.i:=by unfold doF;rw[if_neg (by rw[h];decide),if_neg (by rw[hr];decide),if_neg (by rw[hk];decide),if_pos hk]
theorem do_2{o:Opn}(h:o.sw=false)(hr:rightM o.m=true)(hk:o.m.k=2):doF p o=filF p o.m.i o.m.y:=by unfold doF;rw[if_neg (by rw[h];decide),if_neg (by rw[hr];decide),if_neg (by rw[hk];decide),if_neg (by rw[hk];decide),if_pos hk]
theorem do_3{o:Opn}(h:o.sw=false)(hr:rightM o.m=true)(hk:o.m.k=3):doF p o=akF p o.m.i:=by unfold doF;rw[if_neg (by rw[h];decide),if_neg (by rw[hr];decide),if_neg (by rw[hk];decide),if_neg (by rw[hk];decide),if_neg (by rw[hk];decide),if_pos hk]
theorem do_4{o:Opn}(h:o.sw=false)(hr:rightM o.m=true)(hk:o.m.k=4):doF p o=kilF p:=by unfold doF;rw[if_neg (by rw[h];decide),if_neg (by rw[hr];decide),if_neg (by rw[hk];decide),if_neg (by rw[hk];decide),if_neg (by rw[hk];decide),if_neg (by rw[hk];decide),if_pos hk]
theorem do_5{o:Opn}(h:o.sw=false)(hr:rightM o.m=true)(hk:o.m.k=5):doF p o=reaF p:=by unfold doF;rw[if_neg (by rw[h];decide),if_neg (by rw[hr];decide),if_neg (by rw[hk];decide),if_neg (by rw[hk];decide),if_neg (by rw[hk];decide),if_neg (by rw[hk];decide),if_neg (by rw[hk];decide),if_pos hk]
theorem do_6{o:Opn}(h:o.sw=false)(hr:rightM o.m=true)(hk:o.m.k=6):doF p o=lmtF p o.m.z o.m.v:=by unfold doF;rw[if_neg (by rw[h];decide),if_neg (by rw[hr];decide),if_neg (by rw[hk];decide),if_neg (by rw[hk];decide),if_neg (by rw[hk];decide),if_neg (by rw[hk];decide),if_neg (by rw[hk];decide),if_neg (by rw[hk];decide)]
theorem q15_of{W:World}{te:TypeId}{v0 v1 v2 v3 v4 v5 v6 v7 v8 v9 v10 v11 v12 v13 v14:Value}(hk:Blk W g te #[v0,v1,v2,v3,v4,v5,v6,v7,v8,v9,v10,v11,v12,v13,v14]):W.cell? ⟨g,0,none⟩=some v0∧W.cell? ⟨g,1,none⟩=some v1∧W.cell? ⟨g,2,none⟩=some v2∧W.cell? ⟨g,3,none⟩=some v3∧W.cell? ⟨g,4,none⟩=some v4∧W.cell? ⟨g,5,none⟩=some v5∧W.cell? ⟨g,6,none⟩=some v6∧W.cell? ⟨g,7,none⟩=some v7∧W.cell? ⟨g,8,none⟩=some v8∧W.cell? ⟨g,9,none⟩=some v9∧W.cell? ⟨g,10,none⟩=some v10∧W.cell? ⟨g,11,none⟩=some v11∧W.cell? ⟨g,12,none⟩=some v12∧W.cell? ⟨g,13,none⟩=some v13∧W.cell? ⟨g,14,none⟩=some v14:=⟨hk.cell 0,hk.cell 1,hk.cell 2,hk.cell 3,hk.cell 4,hk.cell 5,hk.cell 6,hk.cell 7,hk.cell 8,hk.cell 9,hk.cell 10,hk.cell 11,hk.cell 12,hk.cell 13,hk.cell 14⟩
theorem killD(base g:Nat)(q:Mq)(w:World)(h:Hid (Mm base w g q)):Calls Tryz.prog 59 #[.pointer (some ⟨g,0,none⟩)] w (MadeDo base g q (kilF (plO q)).1 (kilF (plO q)).2.1 (kilF (plO q)).2.2.1 (kilF (plO q)).2.2.2 w):=kill_any base g q w h
theorem rearmD(base g:Nat)(q:Mq)(w:World)(h:Hid (Mm base w g q))(hep:0≤q.ep∧q.ep≤1000000000):Calls Tryz.prog 60 #[.pointer (some ⟨g,0,none⟩)] w (MadeDo base g q (reaF (plO q)).1 (reaF (plO q)).2.1 (reaF (plO q)).2.2.1 (reaF (plO q)).2.2.2 w):=rearm_any base g q w h hep
theorem madeDo_up{base gZ:Nat}{q q':Mq}{code id:Int}{outs:List (Int×Int)}{w wc w':World}{Ao:Option Addr}{no co:Nat}(U:Hid (Below w.heap.size w wc))(hgz:Hid (w.heap.size≤gZ))(Z:Hid (Blk wc gZ 74 #[.int .i64 0,.int .i64 0]))(MZ:Hid (Mz gZ g q))(M:Hid (Mm base wc g q))
  (h:no=outs.length∧Nds w' w'.heap.size Ao outs∧(∀a,Ao=some a→wc.heap.size≤a.block)∧Mm base w' g q'∧plO q'=p∧q'.Ab=q.Ab∧Kp wc w' g q.Ab∧(∀z,z<wc.heap.size→Mz z g q→Mz z g q')):
  Blk w' gZ 74 #[.int .i64 0,.int .i64 0]∧MadeDo base g q p code id outs w (.returned (.tuple #[.agg #[.int .i64 code,.int .i64 id],.slice Ao no co])) (st2 w' gZ (.int .i64 code) (.int .i64 id)):=by
 obtain⟨n,o,f,r,s,t,k,l⟩:=h;have c:=Z.o.lt
 have i:Blk w' gZ 74 (vI 0 0):=(k.block gZ c MZ.o.ne (fun b v=>by
  intro e
  exact blk_own_ne Z.o M.o.row (by decide) (by rw[v,e];rfl))).trans Z.o
 have m:=l gZ c MZ.o;refine⟨i,?_⟩;unfold st2;refine⟨q',Ao,no,co,rfl,n,?_,fun a d=>Nat.le_trans U.o.size (f a d),Mm_setz (Mm_setz r m i (by decide) 0 _) m (blk_st i 0 _) (by decide) 1 _,s,t,Kp_past (Kp_past (Kp_trans (Kp_of_below U.o) k) hgz.o 0 _) hgz.o 1 _,fun z x j=>l z (Nat.lt_of_lt_of_le x U.o.size) j⟩;exact Rd.keep' (Rd.keep' o (Nat.lt_succ_self _) (fun a d=>by have:=f a d;omega) _) (Nat.lt_succ_self _) (fun a d=>by have:=f a d;omega) _
theorem do_any(base g m:Nat)(q:Mq)(mk ma ms mp mq mn mt mi my mz mv sx ex:Int)(mx sw:Bool)(w:World)(h:Hid (Mm base w g q))(hv:Hid (Vq m q))(hm:m≤900)(hE:Hid (Vo q))(hep:0≤q.ep∧q.ep≤1000000000)
  (hp:inI mp)(hq:inI mq)(hy:my≤9223372036854775807)(hV:mv≤9223372036854775807)(hsx:inI sx)(hex0: -9223372036854775808≤ex)(hex1:ex≤9223372036854775807):
  Calls Tryz.prog 28 #[.pointer (some ⟨g,0,none⟩),.agg #[.int .i64 mk,.int .i64 ma,.int .i64 ms,.bool mx,.int .i64 mp,.int .i64 mq,.int .i64 mn,.int .i64 mt,.int .i64 mi,.int .i64 my,.int .i64 mz,.int .i64 mv,.bool sw,.int .i64 sx,.int .i64 ex]] w (MadeDo base g q (doF (plO q) ⟨⟨mk,ma,ms,mx,mp,mq,mn,mt,mi,my,mz,mv⟩,sw,sx,ex⟩).1 (doF (plO q) ⟨⟨mk,ma,ms,mx,mp,mq,mn,mt,mi,my,mz,mv⟩,sw,sx,ex⟩).2.1 (doF (plO q) ⟨⟨mk,ma,ms,mx,mp,mq,mn,mt,mi,my,mz,mv⟩,sw,sx,ex⟩).2.2.1 (doF (plO q) ⟨⟨mk,ma,ms,mx,mp,mq,mn,mt,mi,my,mz,mv⟩,sw,sx,ex⟩).2.2.2 w):=by
 have U0:=κ (γ w (.cells (vP mk ma ms mx mp mq mn mt mi my mz mv sw sx ex) 79) (.cells (vI 0 0) 74));have O0:=κ ((Blk.fresh w 79 (vP mk ma ms mx mp mq mn mt mi my mz mv sw sx ex)).alloc (.cells (vI 0 0) 74));have Z0:=κ (δ (w.alloc (.cells (vP mk ma ms mx mp mq mn mt mi my mz mv sw sx ex) 79)) 74 (vI 0 0) (w.heap.size+1));have M0:=κ (Mm_below h.o U0.o);have ag:Hid (Mz (w.heap.size+1) g q):=Mz_of h.o (by omega);obtain⟨vn,ah⟩:=ν q.nb;have aj:1≤q.nb:=by have h1:=hv.o.nb;have h2:=hv.o.sh;omega
 go_enter Tryz.func28,Tryz.ntmps28
 go_upto_region 1 with fail
 obtain⟨gO,X⟩:=ν w.heap.size;obtain⟨E,O⟩:=ν (w.heap.size+1);have O1:=κ (ζ X O0.o);have Z1:=κ (ζ O Z0.o);have P:Hid (Mz E g q):=by rw[O];exact ag.o
 have F:Hid (w.heap.size≤E):=by show _≤_;omega
 simp only[←O];simp only[←X];clear X O O0 Z0 ag;generalize ((w.alloc (.cells (vP mk ma ms mx mp mq mn mt mi my mz mv sw sx ex) 79)).alloc (.cells (vI 0 0) 74))=w0 at O1 Z1 U0 M0 ⊢;have k7:w0.cell? (α g 7)=some (.slice q.Ab vn q.cb):=by rw[ah];exact M0.o.blk.cell 7
 have an:1≤vn:=by omega
 clear aj ah;have tn:((vn:Int)==0)=false:=by simp;omega
 obtain⟨o0,o1,o2,o3,o4,o5,o6,o7,o8,o9,Y,Z,aa,ab,ac⟩:=q15_of O1.o;have ao:Hid (∀p o,doF p o=doF p o):=fun _ _=>rfl
 cases sw with
 |true=>
  have y:Hid (doF (plO q) ⟨⟨mk,ma,ms,mx,mp,mq,mn,mt,mi,my,mz,mv⟩,true,sx,ex⟩=swpF (plO q) sx ex):=do_sw rfl;obtain⟨PP,k,i,A,n⟩: ∃a b c d,swpF (plO q) sx ex=(a,b,c,d):=⟨_,_,_,_,rfl⟩;have r:=msweep_any base g m q sx ex w0 M0 hv hm hsx hex0 hex1;rw[n]at r;rw[n]at y;clear n
  go_wp2_with fail
  refine r.mono ?_;rintro e G ⟨q',H,I,C,rfl,f⟩;have j:=madeDo_up (co:=C) (code:=k) (id:=i) U0 F Z1 P M0 f;have s:Blk (st2 G E (ι k) (ι i)) E 74 (vI k i):=st2_blk j.1;have l:=κ j.2;obtain⟨Q,R,S,T⟩:=q2b j.1;have U:=χ ((blk_st j.1 0 (ι k)).cell 1);clear j f r
  go_wp2_with fail
  obtain⟨t,x,_,_⟩:=q2b s;clear s;unfold st2 at t x l;exact bodyPost_ret (v:= .tuple #[.agg #[ι k,ι i],.slice H I C]) (by simp[results,Tryz.results28,go_sem,t,x]) rfl (by first|exact l.o|(rw[y.o];exact l.o))
 |false=>
  have RG:=Wrt.right_any ⟨mk,ma,ms,mx,mp,mq,mn,mt,mi,my,mz,mv⟩ w0;simp only[mvl]at RG
  go_upto_region 5 with fail
  go_wp2_with fail
  refine RG.mono ?_;rintro e w1 ⟨rfl,K⟩;have U1:=κ (CrdB.below_step U0.o K);have O2:=κ (Blk.below' O1.o K);have Z2:=κ (Blk.below' Z1.o K);have M1:=κ (Mm_below M0.o K);clear K o0 o1 o2 o3 o4 o5 o6 o7 o8 o9 Y Z aa ab ac k7 RG O1;by_cases hr:rightM ⟨mk,ma,ms,mx,mp,mq,mn,mt,mi,my,mz,mv⟩=true
  case neg=>
   have ai:rightM ⟨mk,ma,ms,mx,mp,mq,mn,mt,mi,my,mz,mv⟩=false:=by simpa using hr
   rw[ai];have y:Hid (doF (plO q) ⟨⟨mk,ma,ms,mx,mp,mq,mn,mt,mi,my,mz,mv⟩,false,sx,ex⟩=(plO q,(1,0,[]))):=do_bad rfl ai
   go_wp2_with fail
   refine(refused_any 1 _).mono ?_;rintro e G ⟨rfl,ad⟩;have j:=madeDo_up (co:=0) (code:=1) (id:=0) (w':=G) (q':=q) (p:=plO q) (outs:=[]) (Ao:=none) (no:=0) U1 F Z2 P M1 ⟨rfl,.inl rfl,fun a ha=>(by cases ha),Mm_below M1.o ad,rfl,rfl,Kp_of_below ad,fun z _ h=>h⟩;have s:Blk (st2 G E (ι 1) (ι 0)) E 74 (vI 1 0):=st2_blk j.1;have l:=κ j.2;obtain⟨Q,R,S,T⟩:=q2b j.1;have U:=χ ((blk_st j.1 0 (ι 1)).cell 1);clear j ad
   go_wp2_with fail
   obtain⟨t,x,_,_⟩:=q2b s;clear s;unfold st2 at t x l;exact bodyPost_ret (v:= .tuple #[.agg #[ι 1,ι 0],.slice none 0 0]) (by simp[results,Tryz.results28,go_sem,t,x]) rfl (by first|exact l.o|(rw[y.o];exact l.o))
  case pos=>
   rw[hr];obtain⟨ak,al,am,L⟩:=rightM_of hr;have HR:=κ hr;unfold fitP at L;simp only at ak al L;obtain⟨⟨ap,aq⟩,⟨ar,au⟩,⟨av,aw⟩,⟨ae,ax⟩,fp,fq,fn,ft,fy,fv⟩:=L;clear am hr;obtain⟨o0,o1,o2,o3,o4,o5,o6,o7,o8,o9,Y,Z,aa,ab,ac⟩:=q15_of O2.o;have V2:=β w1 (.cells (vM mk ma ms mx mp mq mn mt mi my mz mv) 77);have N2:=κ (Blk.fresh w1 77 (vM mk ma ms mx mp mq mn mt mi my mz mv));have V:=κ (CrdB.below_step U1.o V2);have W:=κ (Blk.below' Z2.o V2);have J:=κ (Mm_below M1.o V2);clear V2
   go_upto_region 8 with fail
   obtain⟨gN,af⟩:=ν w1.heap.size;have N3:=κ (ζ af N2.o);simp only[←af];clear af N2 o0 o1 o2 o3 o4 o5 o6 o7 o8 o9 Y Z aa ab ac;generalize w1.alloc (.cells (vM mk ma ms mx mp mq mn mt mi my mz mv) 77)=w2 at V W J N3 ⊢;obtain⟨j0,j1,j2,j3,j4,j5,j6,j7,j8,j9,ay,az,h0,h1,h2,h3,h4,h5,h6,h7,h8,h9,aA,aB⟩:=q12_of N3.o;have hk:mk=0∨mk=1∨mk=2∨mk=3∨mk=4∨mk=5∨mk=6:=by omega
   rcases hk with rfl|rfl|rfl|rfl|rfl|rfl|rfl
   ·have y:Hid (doF (plO q) ⟨⟨0,ma,ms,mx,mp,mq,mn,mt,mi,my,mz,mv⟩,false,sx,ex⟩=ordF (plO q) ⟨ma,ms,mx,mp,mq,mn,mt⟩):=do_0 rfl HR.o rfl;obtain⟨PP,k,i,A,n⟩: ∃a b c d,ordF (plO q) ⟨ma,ms,mx,mp,mq,mn,mt⟩=(a,b,c,d):=⟨_,_,_,_,rfl⟩;have r:=order_any base g m q ma ms mp mq mn mt mx w2 J hv hm hp hq;rw[n]at r;rw[n]at y;clear n
    go_wp2_with fail
    refine r.mono ?_;rintro e G ⟨q',H,I,C,rfl,f⟩;have j:=madeDo_up (co:=C) (code:=k) (id:=i) V F W P J f;have s:Blk (st2 G E (ι k) (ι i)) E 74 (vI k i):=st2_blk j.1;have l:=κ j.2;obtain⟨Q,R,S,T⟩:=q2b j.1;have U:=χ ((blk_st j.1 0 (ι k)).cell 1);clear j f r
    go_wp2_with fail
    obtain⟨t,x,_,_⟩:=q2b s;clear s;unfold st2 at t x l;exact bodyPost_ret (v:= .tuple #[.agg #[ι k,ι i],.slice H I C]) (by simp[results,Tryz.results28,go_sem,t,x]) rfl (by first|exact l.o|(rw[y.o];exact l.o))
   ·have y:Hid (doF (plO q) ⟨⟨1,ma,ms,mx,mp,mq,mn,mt,mi,my,mz,mv⟩,false,sx,ex⟩=canF (plO q) mi):=do_1 rfl HR.o rfl;obtain⟨PP,k,i,A,n⟩: ∃a b c d,canF (plO q) mi=(a,b,c,d):=⟨_,_,_,_,rfl⟩;have r:=mcancel_any base g m q mi w2 J hv hm ae (by omega);rw[n]at r;rw[n]at y;clear n
    go_wp2_with fail
    refine r.mono ?_;rintro e G ⟨q',H,I,C,rfl,f⟩;have j:=madeDo_up (co:=C) (code:=k) (id:=i) V F W P J f;have s:Blk (st2 G E (ι k) (ι i)) E 74 (vI k i):=st2_blk j.1;have l:=κ j.2;obtain⟨Q,R,S,T⟩:=q2b j.1;have U:=χ ((blk_st j.1 0 (ι k)).cell 1);clear j f r
    go_wp2_with fail
    obtain⟨t,x,_,_⟩:=q2b s;clear s;unfold st2 at t x l;exact bodyPost_ret (v:= .tuple #[.agg #[ι k,ι i],.slice H I C]) (by simp[results,Tryz.results28,go_sem,t,x]) rfl (by first|exact l.o|(rw[y.o];exact l.o))
   ·have y:Hid (doF (plO q) ⟨⟨2,ma,ms,mx,mp,mq,mn,mt,mi,my,mz,mv⟩,false,sx,ex⟩=filF (plO q) mi my):=do_2 rfl HR.o rfl;obtain⟨PP,k,i,A,n⟩: ∃a b c d,filF (plO q) mi my=(a,b,c,d):=⟨_,_,_,_,rfl⟩;have r:=mfill_any base g m q mi my w2 J hv hm ae (by omega) hy hE;rw[n]at r;rw[n]at y;clear n
    go_wp2_with fail
    refine r.mono ?_;rintro e G ⟨q',H,I,C,rfl,f⟩;have j:=madeDo_up (co:=C) (code:=k) (id:=i) V F W P J f;have s:Blk (st2 G E (ι k) (ι i)) E 74 (vI k i):=st2_blk j.1;have l:=κ j.2;obtain⟨Q,R,S,T⟩:=q2b j.1;have U:=χ ((blk_st j.1 0 (ι k)).cell 1);clear j f r
    go_wp2_with fail
    obtain⟨t,x,_,_⟩:=q2b s;clear s;unfold st2 at t x l;exact bodyPost_ret (v:= .tuple #[.agg #[ι k,ι i],.slice H I C]) (by simp[results,Tryz.results28,go_sem,t,x]) rfl (by first|exact l.o|(rw[y.o];exact l.o))
   ·have y:Hid (doF (plO q) ⟨⟨3,ma,ms,mx,mp,mq,mn,mt,mi,my,mz,mv⟩,false,sx,ex⟩=akF (plO q) mi):=do_3 rfl HR.o rfl;obtain⟨PP,k,i,A,n⟩: ∃a b c d,akF (plO q) mi=(a,b,c,d):=⟨_,_,_,_,rfl⟩;have r:=mack_any base g m q mi w2 J hv hm ae (by omega) hE;rw[n]at r;rw[n]at y;clear n
    go_wp2_with fail
    refine r.mono ?_;rintro e G ⟨q',H,I,C,rfl,f⟩;have j:=madeDo_up (co:=C) (code:=k) (id:=i) V F W P J f;have s:Blk (st2 G E (ι k) (ι i)) E 74 (vI k i):=st2_blk j.1;have l:=κ j.2;obtain⟨Q,R,S,T⟩:=q2b j.1;have U:=χ ((blk_st j.1 0 (ι k)).cell 1);clear j f r
    go_wp2_with fail
    obtain⟨t,x,_,_⟩:=q2b s;clear s;unfold st2 at t x l;exact bodyPost_ret (v:= .tuple #[.agg #[ι k,ι i],.slice H I C]) (by simp[results,Tryz.results28,go_sem,t,x]) rfl (by first|exact l.o|(rw[y.o];exact l.o))
   ·have y:Hid (doF (plO q) ⟨⟨4,ma,ms,mx,mp,mq,mn,mt,mi,my,mz,mv⟩,false,sx,ex⟩=kilF (plO q)):=do_4 rfl HR.o rfl;obtain⟨PP,k,i,A,n⟩: ∃a b c d,kilF (plO q)=(a,b,c,d):=⟨_,_,_,_,rfl⟩;have r:=killD base g q w2 J;rw[n]at r;rw[n]at y;clear n
    go_wp2_with fail
    refine r.mono ?_;rintro e G ⟨q',H,I,C,rfl,f⟩;have j:=madeDo_up (co:=C) (code:=k) (id:=i) V F W P J f;have s:Blk (st2 G E (ι k) (ι i)) E 74 (vI k i):=st2_blk j.1;have l:=κ j.2;obtain⟨Q,R,S,T⟩:=q2b j.1;have U:=χ ((blk_st j.1 0 (ι k)).cell 1);clear j f r
    go_wp2_with fail
    obtain⟨t,x,_,_⟩:=q2b s;clear s;unfold st2 at t x l;exact bodyPost_ret (v:= .tuple #[.agg #[ι k,ι i],.slice H I C]) (by simp[results,Tryz.results28,go_sem,t,x]) rfl (by first|exact l.o|(rw[y.o];exact l.o))
   ·have y:Hid (doF (plO q) ⟨⟨5,ma,ms,mx,mp,mq,mn,mt,mi,my,mz,mv⟩,false,sx,ex⟩=reaF (plO q)):=do_5 rfl HR.o rfl;obtain⟨PP,k,i,A,n⟩: ∃a b c d,reaF (plO q)=(a,b,c,d):=⟨_,_,_,_,rfl⟩;have r:=rearmD base g q w2 J hep;rw[n]at r;rw[n]at y;clear n
    go_wp2_with fail
    refine r.mono ?_;rintro e G ⟨q',H,I,C,rfl,f⟩;have j:=madeDo_up (co:=C) (code:=k) (id:=i) V F W P J f;have s:Blk (st2 G E (ι k) (ι i)) E 74 (vI k i):=st2_blk j.1;have l:=κ j.2;obtain⟨Q,R,S,T⟩:=q2b j.1;have U:=χ ((blk_st j.1 0 (ι k)).cell 1);clear j f r
    go_wp2_with fail
    obtain⟨t,x,_,_⟩:=q2b s;clear s;unfold st2 at t x l;exact bodyPost_ret (v:= .tuple #[.agg #[ι k,ι i],.slice H I C]) (by simp[results,Tryz.results28,go_sem,t,x]) rfl (by first|exact l.o|(rw[y.o];exact l.o))
   ·have y:Hid (doF (plO q) ⟨⟨6,ma,ms,mx,mp,mq,mn,mt,mi,my,mz,mv⟩,false,sx,ex⟩=lmtF (plO q) mz mv):=do_6 rfl HR.o rfl;obtain⟨PP,k,i,A,n⟩: ∃a b c d,lmtF (plO q) mz mv=(a,b,c,d):=⟨_,_,_,_,rfl⟩;have r:=mlimit_any base g m q mz mv w2 J hv hm ⟨by omega,by omega⟩ (by omega) hV;rw[n]at r;rw[n]at y;clear n
    go_wp2_with fail
    refine r.mono ?_;rintro e G ⟨q',H,I,C,rfl,f⟩;have j:=madeDo_up (co:=C) (code:=k) (id:=i) V F W P J f;have s:Blk (st2 G E (ι k) (ι i)) E 74 (vI k i):=st2_blk j.1;have l:=κ j.2;obtain⟨Q,R,S,T⟩:=q2b j.1;have U:=χ ((blk_st j.1 0 (ι k)).cell 1);clear j f r
    go_wp2_with fail
    obtain⟨t,x,_,_⟩:=q2b s;clear s;unfold st2 at t x l;exact bodyPost_ret (v:= .tuple #[.agg #[ι k,ι i],.slice H I C]) (by simp[results,Tryz.results28,go_sem,t,x]) rfl (by first|exact l.o|(rw[y.o];exact l.o))
end Mdd
end Go.Proofs.YtcccdikhfgpamaaGreat
