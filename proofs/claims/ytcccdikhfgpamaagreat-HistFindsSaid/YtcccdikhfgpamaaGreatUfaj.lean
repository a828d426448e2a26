/- Texts side by side. -/
import Derived.Test.YtcccdikhfgpamaaGreatUfai
set_option linter.unusedVariables false
set_option linter.unusedSimpArgs false
set_option maxRecDepth 100000
set_option maxHeartbeats 16000000
namespace Go.Proofs.YtcccdikhfgpamaaGreat
open Kap Abv Go.ChangeShapes Go.WideShapes Go.ChangeAt Go.RowKit Mem Tre Ref3 Law3 Crd CrdB CrdC Rr4 Bkp Bks Bkf Bcl Dlk Stk Apt Bko Bku Bka
namespace Bkc
variable {cs:Array Value} {bk:Bk} {rl:List Rc} {co cr gR go nr:Nat} {A C:Option Addr} {w w0:World}
theorem ens_setL(l:List En)(i:Nat)(hi:i<l.length)(x:Int):ens (l.set i (setL (gE l i) x))=(ens l).set (i*11+8) (.int .i64 x):=by
 induction l generalizing i with
 |nil=>simp at hi
 |cons m l ih=>
  cases i with
  |zero=>simp[ens,enV,gE,setL]
  |succ i=>
   have h:=ih i (by simpa using hi);have e: ∀l',ens (m :: l')=enV m++ens l':=fun _=>rfl
   have a:(i+1)*11+8=(i*11+8)+1+1+1+1+1+1+1+1+1+1+1:=by omega
   have b:gE (m :: l) (i+1)=gE l i:=by simp[gE]
   simp only[List.set_cons_succ];rw[e,e,a,b,h];simp[enV]
theorem ens_setS(l:List En)(i:Nat)(hi:i<l.length)(x:Int):ens (l.set i (setS (gE l i) x))=(ens l).set (i*11+9) (.int .i64 x):=by
 induction l generalizing i with
 |nil=>simp at hi
 |cons m l ih=>
  cases i with
  |zero=>simp[ens,enV,gE,setS]
  |succ i=>
   have h:=ih i (by simpa using hi);have e: ∀l',ens (m :: l')=enV m++ens l':=fun _=>rfl
   have a:(i+1)*11+9=(i*11+9)+1+1+1+1+1+1+1+1+1+1+1:=by omega
   have b:gE (m :: l) (i+1)=gE l i:=by simp[gE]
   simp only[List.set_cons_succ];rw[e,e,a,b,h];simp[enV]
theorem delE_len(l:List En)(i:Nat)(hi:i<l.length):(delE l i).length=i+(l.length-(i+1)):=by
 unfold delE;rw[List.length_append,List.length_take,List.length_drop];omega
structure Be(w0 w:World)(gR nr cr:Nat)(A C:Option Addr)(rl:List Rc)(rows:List Ro)(op:List En):Prop where
 r:w.ownsRow w0.heap.size 243 3 (.slice A nr cr) nr (rcs rl)
 o:Rd w w.heap.size C (ens op)
 oN: ∀a,C=some a→a.block≠gR∧w0.heap.size≤a.block
 own: ∀k,k<rl.length→OwR w0.heap.size w (gC rl k)
 e:rl.map Rc.r=rows
 b:Below w0.heap.size w0 w
theorem Be_fin{rows:List Ro}{op:List En}(h:Be w0 w gR nr cr A C rl rows op){u0 u1 u2 u3:Value}(hk:Blk w gR 181 #[u0,u1,u2,u3])(hgR:w0.heap.size≤gR)(v0 v1 v2 v3:Value)(sh ca:Int):
  Bm (Stk.st4 w gR v0 v1 v2 v3) A C rl ⟨sh,ca,rows,op⟩∧Fb w0.heap.size A C rl∧Below w0.heap.size w0 (Stk.st4 w gR v0 v1 v2 v3):=by
 refine⟨⟨Rd.of_own (own_st4 h.r hk (by decide)),h.e,fun k d=>Rd.of_own (own_st4 (h.own k d) hk (by decide)),?_⟩,⟨own_fresh h.r,fun a f=>(h.oN a f).2,fun k d=>own_fresh (h.own k d)⟩,st4_below h.b hgR⟩;have c:=fun a f=>(h.oN a f).1
 unfold Stk.st4;exact Rd.keep' (Rd.keep' (Rd.keep' (Rd.keep' h.o (Nat.lt_succ_self _) c _) (Nat.lt_succ_self _) c _) (Nat.lt_succ_self _) c _) (Nat.lt_succ_self _) c _
theorem Be_of(h:Bo w0.heap.size w A C cr co rl bk)(hn:nr=bk.rows.length)(hk:Blk w gR 181 cs)(hb:Below w0.heap.size w0 w):Be w0 w gR nr cr A C rl bk.rows bk.op:=by
 subst hn;refine⟨h.r,Rd.of_own h.o,fun a b=>⟨fun e=>blk_own_ne hk h.o (by decide) ?_,own_fresh h.o a b⟩,h.own,h.e,hb⟩;rw[b];simp[Value.ownBlock,e]
theorem Bo_setE{base:Nat}{c d:Nat}(h:Bo base w A (some ⟨go,0,none⟩) c d rl bk)(j:Nat)(v:Value)(op':List En)(hl:op'.length=bk.op.length)(he:ens op'=(ens bk.op).set j v):
  Bo base (w.setCell ⟨go,j,none⟩ v) A (some ⟨go,0,none⟩) c d rl ⟨bk.sh,bk.ca,bk.rows,op'⟩:=by
 obtain⟨b,a⟩:=World.ownsRow.stored h.o j v;refine⟨own_grown h.r h.o (by decide) a,?_,h.e,fun k f=>own_grown (h.own k f) h.o (by decide) a,h.ap⟩;show World.ownsRow _ _ _ _ _ op'.length (ens op');rw[he,hl];exact b
theorem Be_del{w':World}{gB:Nat}{i:Nat}{cb:Array Value}(h:Bo w0.heap.size w A (some ⟨go,0,none⟩) cr co rl bk)(hn:nr=bk.rows.length)(hk:Blk w gR 181 cs)(hB:Blk w gB 181 cb)(hb:Below w0.heap.size w0 w)
  (hrd:Rd w' w'.heap.size (some ⟨go,0,none⟩) ((ens bk.op).take (i*11)++(ens bk.op).drop ((i+1)*11)))(hg:w.grownBy w' (some go))(v:Value)(hgB:w0.heap.size≤gB):
  Be w0 (w'.setCell ⟨gB,3,none⟩ v) gR nr cr A (some ⟨go,0,none⟩) rl bk.rows (delE bk.op i):=by
 subst hn;have b:go≠gB:=fun e=>blk_own_ne hB h.o (by decide) (by rw[←e];rfl)
 have c:go≠gR:=fun e=>blk_own_ne hk h.o (by decide) (by rw[←e];rfl)
 have d:=Blk_grown hB hg (some_ne b);refine⟨own_st (own_grown h.r h.o (by decide) hg) d (by decide) 3 _,?_,?_,fun k f=>own_st (own_grown (h.own k f) h.o (by decide) hg) d (by decide) 3 _,h.e,?_⟩
 ·rw[ens_take,ens_drop,←ens_app]at hrd;refine Rd.keep' hrd (Nat.lt_succ_self _) (fun a g=>?_) _;have e:=Option.some.inj g;rw[←e];exact b
 ·intro a g;have e:=Option.some.inj g;rw[←e];exact⟨c,own_fresh h.o _ rfl⟩
 ·exact(grown_below hb h.o hg τ hb.size).setCell (p:=(α gB 3)) hgB _
theorem ack_any(sh ca:Int)(A C:Option Addr)(nr no c d:Nat)(rl:List Rc)(bk:Bk)(k:Int)(w:World)(hsh:Hid (sh=bk.sh∧ca=bk.ca))(hnr:Hid (nr=bk.rows.length))(hno:Hid (no=bk.op.length))(hm:Hid (Bm w A C rl bk))(hf:Hid (FewB bk)):
  Calls Tryz.prog 101 #[.agg #[.int .i64 sh,.int .i64 ca,.slice A nr c,.slice C no d],.int .i64 k] w (MadeB2 (ackF bk k).1 (ackF bk k).2 w):=by
 have aw:nr≤1000:=by rw[hnr.o];exact hf.o.rl
 have ax:no≤1000:=by rw[hno.o];exact hf.o.ol
 have b0:=κ (γ w (.cells (vB sh ca A nr c C no d) 181) (.cells (vB 0 0 none 0 0 none 0 0) 181));have K0:=κ ((Blk.fresh w 181 (vB sh ca A nr c C no d)).alloc (.cells (vB 0 0 none 0 0 none 0 0) 181));have R0:=κ (δ (w.alloc (.cells (vB sh ca A nr c C no d) 181)) 181 (vB 0 0 none 0 0 none 0 0) (w.heap.size+1))
 go_enter Tryz.func101,Tryz.ntmps101
 go_upto_region 1 with fail
 generalize ((w.alloc (.cells (vB sh ca A nr c C no d) 181)).alloc (.cells (vB 0 0 none 0 0 none 0 0) 181))=w0 at b0 K0 R0 ⊢;obtain⟨gB,aa⟩:=ν w.heap.size;obtain⟨H,ab⟩:=ν (w.heap.size+1);have af:Hid (H≠gB):=by show _≠_;omega
 have ag:Hid (w.heap.size≤gB):=by show _≤_;omega
 have ac:Hid (w.heap.size≤H):=by show _≤_;omega
 have J1:=κ (ζ aa K0.o);have J3:=κ (ζ ab R0.o);simp only[←ab];simp only[←aa];clear aa ab K0 R0;obtain⟨J,K,L,O⟩:=q4_of J1.o;have HM:=κ (hm.o.below b0.o)
 go_wp2_with fail
 refine(own_any sh ca A C nr no c d rl bk _ hsh hnr hno HM hf).mono ?_;rintro e w2 ⟨b,q,cr,co,t,he,ah,U⟩;have ai:bkA b q cr co bk= .agg (vB sh ca b nr cr q no co):=by unfold bkA;rw[hnr.o,hno.o,hsh.o.1,hsh.o.2]
 rw[ai]at he;subst he;have aj:=κ (Bo_mono ah b0.o.size);have ak:=κ (below_step b0.o U);have L1:=κ (Blk.below' J1.o U);have L3:=κ (Blk.below' J3.o U);clear J K L O U ai ah J1 J3 HM b0;obtain⟨J,K,L,O,f0,f1,f2,f3⟩:=z4_of L1.o;have I:Hid (Bo w.heap.size ((((w2.setCell (α gB 0) (ι sh)).setCell (α gB 1) (ι ca)).setCell (α gB 2) (.slice b nr cr)).setCell (α gB 3) (.slice q no co)) b q cr co t bk):=Bo_st4 aj.o L1.o (by decide) (by decide) (by decide) _ _ _ _;have P1:Hid (Blk ((((w2.setCell (α gB 0) (ι sh)).setCell (α gB 1) (ι ca)).setCell (α gB 2) (.slice b nr cr)).setCell (α gB 3) (.slice q no co)) gB 181 (vB sh ca b nr cr q no co)):=st4_blk L1.o;have P3:Hid (Blk ((((w2.setCell (α gB 0) (ι sh)).setCell (α gB 1) (ι ca)).setCell (α gB 2) (.slice b nr cr)).setCell (α gB 3) (.slice q no co)) H 181 (vB 0 0 none 0 0 none 0 0)):=st4_far L3.o af.o;have V:Hid (Below w.heap.size w ((((w2.setCell (α gB 0) (ι sh)).setCell (α gB 1) (ι ca)).setCell (α gB 2) (.slice b nr cr)).setCell (α gB 3) (.slice q no co))):=st4_below ak.o ag.o
 go_upto_region 2 with fail
 clear J K L O f0 f1 f2 f3 L1 L3 aj ak;generalize ((((w2.setCell (α gB 0) (ι sh)).setCell (α gB 1) (ι ca)).setCell (α gB 2) (.slice b nr cr)).setCell (α gB 3) (.slice q no co))=w3 at I P1 P3 V ⊢;obtain⟨J,K,L,O⟩:=q4_of P1.o;have y:=place_any sh ca b q nr no cr co bk.op k w3 hno (Rd.of_own (by have h:=I.o.o;exact h)) (by omega);by_cases hp:posE bk.op k<bk.op.length
 case neg=>
  rw[placeF_f hp]at y;have HP:=κ hp;clear hp
  go_upto_region 3 with(go_at_call 138;refine y.mono ?_;rintro e T ⟨rfl,f⟩)
  have Z:Hid (Bo w.heap.size T b q cr co t bk):=⟨own_below I.o.r f,own_below I.o.o f,I.o.e,fun j hj=>own_below (I.o.own j hj) f,I.o.ap⟩;have z:=κ (Blk.below' P1.o f);have l:=κ (Blk.below' P3.o f);have W:=κ (below_step V.o f);clear J K L O f y
  have P:Hid (ackF bk k=(⟨sh,ca,bk.rows,bk.op⟩,15)):=by
   show _=_;unfold ackF;rw[if_neg (show ¬posE bk.op k<bk.op.length from by have:=HP.o;omega),hsh.o.1,hsh.o.2]
  have F3:Blk (st4 T H (ι sh) (ι ca) (.slice b nr cr) (.slice q no co)) H 181 (vB sh ca b nr cr q no co):=st4_blk l.o
  have g:MadeB2 (ackF bk k).1 (ackF bk k).2 w (.returned (.tuple #[.agg (vB sh ca b nr cr q no co),ι 15])) (st4 T H (ι sh) (ι ca) (.slice b nr cr) (.slice q no co)):=by
   obtain⟨y1,y2,y3⟩:=Be_fin (Be_of Z.o hnr.o l.o W.o) l.o ac.o (.int .i64 sh) (.int .i64 ca) (.slice b nr cr) (.slice q no co) sh ca;rw[P.o];refine⟨b,q,cr,co,t,?_,y1,y2,y3⟩;unfold bkA;simp[hno.o,hnr.o]
  have HF:=κ g;clear g;obtain⟨J,K,L,O⟩:=q4_of z.o;obtain⟨z0,z1,z2,z3,f0,f1,f2,f3⟩:=z4_of l.o
  go_wp2_with fail
  obtain⟨d0,d1,d2,d3⟩:=q4_of F3;clear F3;unfold st4 at d0 d1 d2 d3 HF;exact bodyPost_ret (v:= .tuple #[.agg #[ι sh,ι ca,.slice b nr cr,.slice q no co],ι 15]) (by simp[results,Tryz.results101,go_sem,d0,d1,d2,d3]) rfl HF.o
 case pos=>
  rw[placeF_t hp]at y;obtain⟨go,ao⟩:=own_at I.o.o (by omega);subst ao;have HP:=κ hp;obtain⟨i,hi⟩:=ν (posE bk.op k);rw[←hi]at y;have ad:i<bk.op.length:=by rw[hi];exact hp
  have ay:i<no:=by rw[hno.o];exact ad
  have HI:=κ hi;have ae:=κ ad;have az:((i:Int)== -1)=false:=by rw[beq_eq_false_iff_ne];omega
  clear hp hi ad
  go_upto_region 3 with(go_at_call 138;refine y.mono ?_;rintro e T ⟨rfl,f⟩)
  have Z:Hid (Bo w.heap.size T b (some (α go 0)) cr co t bk):=⟨own_below I.o.r f,own_below I.o.o f,I.o.e,fun j hj=>own_below (I.o.own j hj) f,I.o.ap⟩;have z:=κ (Blk.below' P1.o f);have l:=κ (Blk.below' P3.o f);have W:=κ (below_step V.o f);clear J K L O f y I P1 P3 V;obtain⟨_,_,aq,Q,F,G⟩:=own_room Z.o.o;rw[←hno.o]at aq;have c8:=G (i*11+8) _ (ens_get bk.op i 8 ae.o (by decide));have c9:=G (i*11+9) _ (ens_get bk.op i 9 ae.o (by decide));have g8:=(F (i*11+8) (by omega)).2;have g9:=(F (i*11+9) (by omega)).2;clear F G;obtain⟨E,hE⟩:=ν (gE bk.op i);rw[←hE]at c8 c9;have HE:=κ hE;clear hE;obtain⟨id,⟨a,s,x,p,q',n,tt⟩,lf,st,ep⟩:=E;replace c8:T.cell? ⟨go,i*11+8,none⟩=some (.int .i64 lf):=c8;replace c9:T.cell? ⟨go,i*11+9,none⟩=some (.int .i64 st):=c9;obtain⟨J,K,L,O,f0,f1,f2,f3⟩:=z4_of z.o;by_cases hst:st=1
  ·have t1:(st==1)=true:=by simp[hst]
   have R:Hid (ackF bk k=(bk,16)):=by
    show _=_;unfold ackF;rw[if_pos HP.o,←HI.o,←HE.o,if_pos hst]
   clear hst
   go_upto_region 6 with fail
   clear J K L O f0 f1 f2 f3
   have P:Hid (ackF bk k=(⟨sh,ca,bk.rows,bk.op⟩,16)):=by
    show _=_;rw[R.o,hsh.o.1,hsh.o.2]
   have F3:Blk (st4 T H (ι sh) (ι ca) (.slice b nr cr) (.slice (some (α go 0)) no co)) H 181 (vB sh ca b nr cr (some (α go 0)) no co):=st4_blk l.o
   have g:MadeB2 (ackF bk k).1 (ackF bk k).2 w (.returned (.tuple #[.agg (vB sh ca b nr cr (some (α go 0)) no co),ι 16])) (st4 T H (ι sh) (ι ca) (.slice b nr cr) (.slice (some (α go 0)) no co)):=by
    obtain⟨y1,y2,y3⟩:=Be_fin (Be_of Z.o hnr.o l.o W.o) l.o ac.o (.int .i64 sh) (.int .i64 ca) (.slice b nr cr) (.slice (some ⟨go,0,none⟩) no co) sh ca;rw[P.o];refine⟨b,(some (α go 0)),cr,co,t,?_,y1,y2,y3⟩;unfold bkA;simp[hno.o,hnr.o]
   have HF:=κ g;clear g;obtain⟨J,K,L,O⟩:=q4_of z.o;obtain⟨z0,z1,z2,z3,f0,f1,f2,f3⟩:=z4_of l.o
   go_wp2_with fail
   obtain⟨d0,d1,d2,d3⟩:=q4_of F3;clear F3;unfold st4 at d0 d1 d2 d3 HF;exact bodyPost_ret (v:= .tuple #[.agg #[ι sh,ι ca,.slice b nr cr,.slice (some (α go 0)) no co],ι 16]) (by simp[results,Tryz.results101,go_sem,d0,d1,d2,d3]) rfl HF.o
  ·have t1:(st==1)=false:=by simp[hst]
   have R:Hid (ackF bk k=(⟨bk.sh,bk.ca,bk.rows,delE bk.op i⟩,0)):=by
    show _=_;unfold ackF;rw[if_pos HP.o,←HI.o,←HE.o,if_neg hst]
   clear hst;obtain⟨m,S⟩:=ν (i+(no-(i+1)));have ar:(co:Int)≤9223372036854775807:=by unfold maxLen at Q;omega
   clear Q;have D:=deleteE go no co i (i+1) (ens bk.op) w.heap.size T (by have h:=Z.o.o;rw[←hno.o]at h;exact h) (ens_one _) (by omega) (by omega) ar;rw[←S,show((i+1:Nat):Int)=(i:Int)+1 from rfl]at D;have ei:wrap64 ((i:Int)+1)=(i:Int)+1:=by unfold wrap64;omega
   have au:=κ S;clear S
   go_upto_region 8 with(go_at_call 139;refine D.mono ?_;rintro e w5 ⟨rfl,al,X⟩;have k9:=Blk_grown z.o X (some_ne (fun e=>blk_own_ne z.o Z.o.o (by decide) (by rw[←e];rfl)));obtain⟨p0,p1,p2,p3,q0,q1,q2,q3⟩:=z4_of k9)
   have am:=κ (ξ (blk_st k9 3 (.slice (some (α go 0)) m co)));have Y:Hid (Blk (w5.setCell (α gB 3) (.slice (some (α go 0)) m co)) H 181 (vB 0 0 none 0 0 none 0 0)):=far_st (Blk_grown l.o X (some_ne (fun e=>blk_own_ne l.o Z.o.o (by decide) (by rw[←e];rfl)))) af.o _;have an:Hid (Be w (w5.setCell (α gB 3) (.slice (some (α go 0)) m co)) H nr cr b (some (α go 0)) t bk.rows (delE bk.op i)):=Be_del Z.o hnr.o l.o z.o W.o al X _ ag.o;clear p0 p1 p2 p3 q0 q1 q2 q3 k9 al X D J K L O f0 f1 f2 f3;generalize w5.setCell (α gB 3) (.slice (some (α go 0)) m co)=w6 at am Y an ⊢
   have P:Hid (ackF bk k=(⟨sh,ca,bk.rows,delE bk.op i⟩,0)):=by
    show _=_;rw[R.o,hsh.o.1,hsh.o.2]
   have av:Hid (m=(delE bk.op i).length):=by show _=_;rw[delE_len _ _ ae.o,←hno.o];exact au.o
   have F3:Blk (st4 w6 H (ι sh) (ι ca) (.slice b nr cr) (.slice (some (α go 0)) m co)) H 181 (vB sh ca b nr cr (some (α go 0)) m co):=st4_blk Y.o
   have g:MadeB2 (ackF bk k).1 (ackF bk k).2 w (.returned (.tuple #[.agg (vB sh ca b nr cr (some (α go 0)) m co),ι 0])) (st4 w6 H (ι sh) (ι ca) (.slice b nr cr) (.slice (some (α go 0)) m co)):=by
    obtain⟨y1,y2,y3⟩:=Be_fin an.o Y.o ac.o (.int .i64 sh) (.int .i64 ca) (.slice b nr cr) (.slice (some ⟨go,0,none⟩) m co) sh ca;rw[P.o];refine⟨b,(some (α go 0)),cr,co,t,?_,y1,y2,y3⟩;unfold bkA;simp[av.o,hnr.o]
   have HF:=κ g;clear g;obtain⟨J,K,L,O⟩:=q4_of am.o;obtain⟨z0,z1,z2,z3,f0,f1,f2,f3⟩:=z4_of Y.o
   go_wp2_with fail
   obtain⟨d0,d1,d2,d3⟩:=q4_of F3;clear F3;unfold st4 at d0 d1 d2 d3 HF;exact bodyPost_ret (v:= .tuple #[.agg #[ι sh,ι ca,.slice b nr cr,.slice (some (α go 0)) m co],ι 0]) (by simp[results,Tryz.results101,go_sem,d0,d1,d2,d3]) rfl HF.o
theorem gE_set(l:List En)(i:Nat)(hi:i<l.length)(x:En):gE (l.set i x) i=x:=by simp[gE,hi]
theorem delE_set(l:List En)(i:Nat)(x:En):delE (l.set i x) i=delE l i:=by
 unfold delE;rw[List.take_set_of_le τ,List.drop_set_of_lt (Nat.lt_succ_self _)]
theorem cancel_any(sh ca:Int)(A C:Option Addr)(nr no c d:Nat)(rl:List Rc)(bk:Bk)(k:Int)(w:World)(hsh:Hid (sh=bk.sh∧ca=bk.ca))(hnr:Hid (nr=bk.rows.length))(hno:Hid (no=bk.op.length))(hm:Hid (Bm w A C rl bk))(hf:Hid (FewB bk)):
  Calls Tryz.prog 97 #[.agg #[.int .i64 sh,.int .i64 ca,.slice A nr c,.slice C no d],.int .i64 k] w (MadeB2 (cancelF bk k).1 (cancelF bk k).2 w):=by
 have av:nr≤1000:=by rw[hnr.o];exact hf.o.rl
 have aw:no≤1000:=by rw[hno.o];exact hf.o.ol
 have b0:=κ (γ w (.cells (vB sh ca A nr c C no d) 181) (.cells (vB 0 0 none 0 0 none 0 0) 181));have K0:=κ ((Blk.fresh w 181 (vB sh ca A nr c C no d)).alloc (.cells (vB 0 0 none 0 0 none 0 0) 181));have R0:=κ (δ (w.alloc (.cells (vB sh ca A nr c C no d) 181)) 181 (vB 0 0 none 0 0 none 0 0) (w.heap.size+1))
 go_enter Tryz.func97,Tryz.ntmps97
 go_upto_region 1 with fail
 generalize ((w.alloc (.cells (vB sh ca A nr c C no d) 181)).alloc (.cells (vB 0 0 none 0 0 none 0 0) 181))=w0 at b0 K0 R0 ⊢;obtain⟨gB,aa⟩:=ν w.heap.size;obtain⟨G,ab⟩:=ν (w.heap.size+1);have an:Hid (G≠gB):=by show _≠_;omega
 have ao:Hid (w.heap.size≤gB):=by show _≤_;omega
 have ac:Hid (w.heap.size≤G):=by show _≤_;omega
 have J1:=κ (ζ aa K0.o);have J3:=κ (ζ ab R0.o);simp only[←ab];simp only[←aa];clear aa ab K0 R0;obtain⟨J,K,L,O⟩:=q4_of J1.o;have HM:=κ (hm.o.below b0.o)
 go_wp2_with fail
 refine(own_any sh ca A C nr no c d rl bk _ hsh hnr hno HM hf).mono ?_;rintro e w2 ⟨b,m,cr,co,q,he,af,S⟩;have ag:bkA b m cr co bk= .agg (vB sh ca b nr cr m no co):=by unfold bkA;rw[hnr.o,hno.o,hsh.o.1,hsh.o.2]
 rw[ag]at he;subst he;have ah:=κ (Bo_mono af b0.o.size);have ai:=κ (below_step b0.o S);have L1:=κ (Blk.below' J1.o S);have L3:=κ (Blk.below' J3.o S);clear J K L O S ag af J1 J3 HM b0;obtain⟨J,K,L,O,f0,f1,f2,f3⟩:=z4_of L1.o;have H:Hid (Bo w.heap.size ((((w2.setCell (α gB 0) (ι sh)).setCell (α gB 1) (ι ca)).setCell (α gB 2) (.slice b nr cr)).setCell (α gB 3) (.slice m no co)) b m cr co q bk):=Bo_st4 ah.o L1.o (by decide) (by decide) (by decide) _ _ _ _;have P1:Hid (Blk ((((w2.setCell (α gB 0) (ι sh)).setCell (α gB 1) (ι ca)).setCell (α gB 2) (.slice b nr cr)).setCell (α gB 3) (.slice m no co)) gB 181 (vB sh ca b nr cr m no co)):=st4_blk L1.o;have P3:Hid (Blk ((((w2.setCell (α gB 0) (ι sh)).setCell (α gB 1) (ι ca)).setCell (α gB 2) (.slice b nr cr)).setCell (α gB 3) (.slice m no co)) G 181 (vB 0 0 none 0 0 none 0 0)):=st4_far L3.o an.o;have T:Hid (Below w.heap.size w ((((w2.setCell (α gB 0) (ι sh)).setCell (α gB 1) (ι ca)).setCell (α gB 2) (.slice b nr cr)).setCell (α gB 3) (.slice m no co))):=st4_below ai.o ao.o
 go_upto_region 2 with fail
 clear J K L O f0 f1 f2 f3 L1 L3 ah ai;generalize ((((w2.setCell (α gB 0) (ι sh)).setCell (α gB 1) (ι ca)).setCell (α gB 2) (.slice b nr cr)).setCell (α gB 3) (.slice m no co))=w3 at H P1 P3 T ⊢;obtain⟨J,K,L,O⟩:=q4_of P1.o;have t:=place_any sh ca b m nr no cr co bk.op k w3 hno (Rd.of_own (by have h:=H.o.o;exact h)) (by omega);by_cases hp:posE bk.op k<bk.op.length
 case neg=>
  rw[placeF_f hp]at t;have HP:=κ hp;clear hp
  go_upto_region 3 with(go_at_call 138;refine t.mono ?_;rintro e I ⟨rfl,f⟩)
  have U:Hid (Bo w.heap.size I b m cr co q bk):=⟨own_below H.o.r f,own_below H.o.o f,H.o.e,fun j hj=>own_below (H.o.own j hj) f,H.o.ap⟩;have y:=κ (Blk.below' P1.o f);have l:=κ (Blk.below' P3.o f);have P:=κ (below_step T.o f);clear J K L O f t
  have Q:Hid (cancelF bk k=(⟨sh,ca,bk.rows,bk.op⟩,15)):=by
   show _=_;unfold cancelF;rw[if_neg (show ¬posE bk.op k<bk.op.length from by have:=HP.o;omega),hsh.o.1,hsh.o.2]
  have V:Blk (st4 I G (ι sh) (ι ca) (.slice b nr cr) (.slice m no co)) G 181 (vB sh ca b nr cr m no co):=st4_blk l.o
  have g:MadeB2 (cancelF bk k).1 (cancelF bk k).2 w (.returned (.tuple #[.agg (vB sh ca b nr cr m no co),ι 15])) (st4 I G (ι sh) (ι ca) (.slice b nr cr) (.slice m no co)):=by
   obtain⟨y1,y2,y3⟩:=Be_fin (Be_of U.o hnr.o l.o P.o) l.o ac.o (.int .i64 sh) (.int .i64 ca) (.slice b nr cr) (.slice m no co) sh ca;rw[Q.o];refine⟨b,m,cr,co,q,?_,y1,y2,y3⟩;unfold bkA;simp[hno.o,hnr.o]
  have W:=κ g;clear g;obtain⟨J,K,L,O⟩:=q4_of y.o;obtain⟨z0,z1,z2,z3,f0,f1,f2,f3⟩:=z4_of l.o
  go_wp2_with fail
  obtain⟨X,Y,Z,d3⟩:=q4_of V;clear V;unfold st4 at X Y Z d3 W;exact bodyPost_ret (v:= .tuple #[.agg #[ι sh,ι ca,.slice b nr cr,.slice m no co],ι 15]) (by simp[results,Tryz.results97,go_sem,X,Y,Z,d3]) rfl W.o
 case pos=>
  rw[placeF_t hp]at t;obtain⟨go,aq⟩:=own_at H.o.o (by omega);subst aq;have HP:=κ hp;obtain⟨i,hi⟩:=ν (posE bk.op k);rw[←hi]at t;have ad:i<bk.op.length:=by rw[hi];exact hp
  have ax:i<no:=by rw[hno.o];exact ad
  have HI:=κ hi;have ae:=κ ad;have ay:((i:Int)== -1)=false:=by rw[beq_eq_false_iff_ne];omega
  clear hp hi ad
  go_upto_region 3 with(go_at_call 138;refine t.mono ?_;rintro e I ⟨rfl,f⟩)
  have U:Hid (Bo w.heap.size I b (some (α go 0)) cr co q bk):=⟨own_below H.o.r f,own_below H.o.o f,H.o.e,fun j hj=>own_below (H.o.own j hj) f,H.o.ap⟩;have y:=κ (Blk.below' P1.o f);have l:=κ (Blk.below' P3.o f);have P:=κ (below_step T.o f);clear J K L O f t H P1 P3 T;obtain⟨_,_,ar,az,z,F⟩:=own_room U.o.o;rw[←hno.o]at ar;have c8:=F (i*11+8) _ (ens_get bk.op i 8 ae.o (by decide));have c9:=F (i*11+9) _ (ens_get bk.op i 9 ae.o (by decide));have g8:=(z (i*11+8) (by omega)).2;have g9:=(z (i*11+9) (by omega)).2;clear z F;obtain⟨E,hE⟩:=ν (gE bk.op i);rw[←hE]at c8 c9;have HE:=κ hE;clear hE;obtain⟨id,⟨a,s,x,p,q',n,tt⟩,lf,st,ep⟩:=E;replace c8:I.cell? ⟨go,i*11+8,none⟩=some (.int .i64 lf):=c8;replace c9:I.cell? ⟨go,i*11+9,none⟩=some (.int .i64 st):=c9;obtain⟨J,K,L,O,f0,f1,f2,f3⟩:=z4_of y.o;by_cases hst:st=2
  ·have t1:(st==2)=true:=by simp[hst]
   have au:Hid (cancelF bk k=(bk,16)):=by
    show _=_;unfold cancelF;rw[if_pos HP.o,←HI.o,←HE.o,if_pos hst]
   clear hst
   go_upto_region 6 with fail
   clear J K L O f0 f1 f2 f3
   have Q:Hid (cancelF bk k=(⟨sh,ca,bk.rows,bk.op⟩,16)):=by
    show _=_;rw[au.o,hsh.o.1,hsh.o.2]
   have V:Blk (st4 I G (ι sh) (ι ca) (.slice b nr cr) (.slice (some (α go 0)) no co)) G 181 (vB sh ca b nr cr (some (α go 0)) no co):=st4_blk l.o
   have g:MadeB2 (cancelF bk k).1 (cancelF bk k).2 w (.returned (.tuple #[.agg (vB sh ca b nr cr (some (α go 0)) no co),ι 16])) (st4 I G (ι sh) (ι ca) (.slice b nr cr) (.slice (some (α go 0)) no co)):=by
    obtain⟨y1,y2,y3⟩:=Be_fin (Be_of U.o hnr.o l.o P.o) l.o ac.o (.int .i64 sh) (.int .i64 ca) (.slice b nr cr) (.slice (some ⟨go,0,none⟩) no co) sh ca;rw[Q.o];refine⟨b,(some (α go 0)),cr,co,q,?_,y1,y2,y3⟩;unfold bkA;simp[hno.o,hnr.o]
   have W:=κ g;clear g;obtain⟨J,K,L,O⟩:=q4_of y.o;obtain⟨z0,z1,z2,z3,f0,f1,f2,f3⟩:=z4_of l.o
   go_wp2_with fail
   obtain⟨X,Y,Z,d3⟩:=q4_of V;clear V;unfold st4 at X Y Z d3 W;exact bodyPost_ret (v:= .tuple #[.agg #[ι sh,ι ca,.slice b nr cr,.slice (some (α go 0)) no co],ι 16]) (by simp[results,Tryz.results97,go_sem,X,Y,Z,d3]) rfl W.o
  ·have t1:(st==2)=false:=by simp[hst]
   have Q:Hid (cancelF bk k=(⟨sh,ca,bk.rows,bk.op.set i (setS (gE bk.op i) 2)⟩,0)):=by
    show _=_;unfold cancelF;rw[if_pos HP.o,←HI.o,←HE.o,if_neg hst,hsh.o.1,hsh.o.2]
   clear hst;have aA:Hid (no=(bk.op.set i (setS (gE bk.op i) 2)).length):=by show _=_;rw[List.length_set];exact hno.o
   have aj:gB≠go:=fun e=>blk_own_ne y.o U.o.o (by decide) (by rw[e];rfl)
   have ak:G≠go:=fun e=>blk_own_ne l.o U.o.o (by decide) (by rw[e];rfl)
   have B5:Hid (Bo w.heap.size (I.setCell (α go (i*11+9)) (ι 2)) b (some (α go 0)) cr co q (⟨bk.sh,bk.ca,bk.rows,bk.op.set i (setS (gE bk.op i) 2)⟩:Bk)):=Bo_setE U.o (i*11+9) _ _ (by simp) (ens_setS _ _ ae.o _);have al:Hid (Blk (I.setCell (α go (i*11+9)) (ι 2)) gB 181 (vB sh ca b nr cr (some (α go 0)) no co)):=far_st y.o aj _;have R:Hid (Blk (I.setCell (α go (i*11+9)) (ι 2)) G 181 (vB 0 0 none 0 0 none 0 0)):=far_st l.o ak _;have am:Hid (Below w.heap.size w (I.setCell (α go (i*11+9)) (ι 2))):=P.o.setCell (p:=(α go (i*11+9))) (own_fresh U.o.o (α go 0) rfl) _
   go_upto_region 8 with fail
   clear J K L O f0 f1 f2 f3 c8 c9 g8 g9 U y l P aj ak;generalize (I.setCell (α go (i*11+9)) (ι 2))=w5 at B5 al R am ⊢;have V:Blk (st4 w5 G (ι sh) (ι ca) (.slice b nr cr) (.slice (some (α go 0)) no co)) G 181 (vB sh ca b nr cr (some (α go 0)) no co):=st4_blk R.o
   have g:MadeB2 (cancelF bk k).1 (cancelF bk k).2 w (.returned (.tuple #[.agg (vB sh ca b nr cr (some (α go 0)) no co),ι 0])) (st4 w5 G (ι sh) (ι ca) (.slice b nr cr) (.slice (some (α go 0)) no co)):=by
    obtain⟨y1,y2,y3⟩:=Be_fin (Be_of B5.o hnr.o R.o am.o) R.o ac.o (.int .i64 sh) (.int .i64 ca) (.slice b nr cr) (.slice (some ⟨go,0,none⟩) no co) sh ca;rw[Q.o];refine⟨b,(some (α go 0)),cr,co,q,?_,y1,y2,y3⟩;unfold bkA;simp[hno.o,hnr.o]
   have W:=κ g;clear g;obtain⟨J,K,L,O⟩:=q4_of al.o;obtain⟨z0,z1,z2,z3,f0,f1,f2,f3⟩:=z4_of R.o
   go_wp2_with fail
   obtain⟨X,Y,Z,d3⟩:=q4_of V;clear V;unfold st4 at X Y Z d3 W;exact bodyPost_ret (v:= .tuple #[.agg #[ι sh,ι ca,.slice b nr cr,.slice (some (α go 0)) no co],ι 0]) (by simp[results,Tryz.results97,go_sem,X,Y,Z,d3]) rfl W.o
theorem fill_any(sh ca:Int)(A C:Option Addr)(nr no c d:Nat)(rl:List Rc)(bk:Bk)(k q:Int)(w:World)(hsh:Hid (sh=bk.sh∧ca=bk.ca))(hnr:Hid (nr=bk.rows.length))(hno:Hid (no=bk.op.length))(hm:Hid (Bm w A C rl bk))(hf:Hid (FewB bk))(hwf:Hid (∀i,i<bk.op.length→inI (gE bk.op i).lf))(hq9:q≤9223372036854775807):
  Calls Tryz.prog 99 #[.agg #[.int .i64 sh,.int .i64 ca,.slice A nr c,.slice C no d],.int .i64 k,.int .i64 q] w (MadeB2 (fillF bk k q).1 (fillF bk k q).2 w):=by
 have aK:nr≤1000:=by rw[hnr.o];exact hf.o.rl
 have aL:no≤1000:=by rw[hno.o];exact hf.o.ol
 have b0:=κ (γ w (.cells (vB sh ca A nr c C no d) 181) (.cells (vB 0 0 none 0 0 none 0 0) 181));have K0:=κ ((Blk.fresh w 181 (vB sh ca A nr c C no d)).alloc (.cells (vB 0 0 none 0 0 none 0 0) 181));have R0:=κ (δ (w.alloc (.cells (vB sh ca A nr c C no d) 181)) 181 (vB 0 0 none 0 0 none 0 0) (w.heap.size+1))
 go_enter Tryz.func99,Tryz.ntmps99
 go_upto_region 1 with fail
 generalize ((w.alloc (.cells (vB sh ca A nr c C no d) 181)).alloc (.cells (vB 0 0 none 0 0 none 0 0) 181))=w0 at b0 K0 R0 ⊢;obtain⟨gB,ah⟩:=ν w.heap.size;obtain⟨z,ai⟩:=ν (w.heap.size+1);have am:Hid (z≠gB):=by show _≠_;omega
 have an:Hid (w.heap.size≤gB):=by show _≤_;omega
 have ab:Hid (w.heap.size≤z):=by show _≤_;omega
 have J1:=κ (ζ ah K0.o);have J3:=κ (ζ ai R0.o);simp only[←ai];simp only[←ah];clear ah ai K0 R0;obtain⟨H,I,J,K⟩:=q4_of J1.o;have HM:=κ (hm.o.below b0.o)
 go_wp2_with fail
 refine(own_any sh ca A C nr no c d rl bk _ hsh hnr hno HM hf).mono ?_;rintro e w2 ⟨b,m,cr,co,F,he,ao,ae⟩;have aq:bkA b m cr co bk= .agg (vB sh ca b nr cr m no co):=by unfold bkA;rw[hnr.o,hno.o,hsh.o.1,hsh.o.2]
 rw[aq]at he;subst he;have ar:=κ (Bo_mono ao b0.o.size);have au:=κ (below_step b0.o ae);have L1:=κ (Blk.below' J1.o ae);have L3:=κ (Blk.below' J3.o ae);clear H I J K ae aq ao J1 J3 HM b0;obtain⟨H,I,J,K,f0,f1,f2,f3⟩:=z4_of L1.o;have P:Hid (Bo w.heap.size ((((w2.setCell (α gB 0) (ι sh)).setCell (α gB 1) (ι ca)).setCell (α gB 2) (.slice b nr cr)).setCell (α gB 3) (.slice m no co)) b m cr co F bk):=Bo_st4 ar.o L1.o (by decide) (by decide) (by decide) _ _ _ _;have P1:Hid (Blk ((((w2.setCell (α gB 0) (ι sh)).setCell (α gB 1) (ι ca)).setCell (α gB 2) (.slice b nr cr)).setCell (α gB 3) (.slice m no co)) gB 181 (vB sh ca b nr cr m no co)):=st4_blk L1.o;have P3:Hid (Blk ((((w2.setCell (α gB 0) (ι sh)).setCell (α gB 1) (ι ca)).setCell (α gB 2) (.slice b nr cr)).setCell (α gB 3) (.slice m no co)) z 181 (vB 0 0 none 0 0 none 0 0)):=st4_far L3.o am.o;have ac:Hid (Below w.heap.size w ((((w2.setCell (α gB 0) (ι sh)).setCell (α gB 1) (ι ca)).setCell (α gB 2) (.slice b nr cr)).setCell (α gB 3) (.slice m no co))):=st4_below au.o an.o
 go_upto_region 2 with fail
 clear H I J K f0 f1 f2 f3 L1 L3 ar au;generalize ((((w2.setCell (α gB 0) (ι sh)).setCell (α gB 1) (ι ca)).setCell (α gB 2) (.slice b nr cr)).setCell (α gB 3) (.slice m no co))=w3 at P P1 P3 ac ⊢;by_cases hq:q<1
 ·have t1:decide (q<1)=true:=by simp[hq]
  have L:Hid (fillF bk k q=(bk,1)):=by
   show _=_;unfold fillF;rw[if_pos hq]
  clear hq
  go_upto_region 3 with fail
  have G:Hid (fillF bk k q=(⟨sh,ca,bk.rows,bk.op⟩,1)):=by
   show _=_;rw[L.o,hsh.o.1,hsh.o.2]
  have U:Blk (st4 w3 z (ι sh) (ι ca) (.slice b nr cr) (.slice m no co)) z 181 (vB sh ca b nr cr m no co):=st4_blk P3.o
  have f:MadeB2 (fillF bk k q).1 (fillF bk k q).2 w (.returned (.tuple #[.agg (vB sh ca b nr cr m no co),ι 1])) (st4 w3 z (ι sh) (ι ca) (.slice b nr cr) (.slice m no co)):=by
   obtain⟨y1,y2,y3⟩:=Be_fin (Be_of P.o hnr.o P3.o ac.o) P3.o ab.o (.int .i64 sh) (.int .i64 ca) (.slice b nr cr) (.slice m no co) sh ca;rw[G.o];refine⟨b,m,cr,co,F,?_,y1,y2,y3⟩;unfold bkA;simp[hno.o,hnr.o]
  have V:=κ f;clear f;obtain⟨H,I,J,K⟩:=q4_of P1.o;obtain⟨z0,z1,z2,z3,f0,f1,f2,f3⟩:=z4_of P3.o
  go_wp2_with fail
  obtain⟨W,X,Y,Z⟩:=q4_of U;clear U;unfold st4 at W X Y Z V;exact bodyPost_ret (v:= .tuple #[.agg #[ι sh,ι ca,.slice b nr cr,.slice m no co],ι 1]) (by simp[results,Tryz.results99,go_sem,W,X,Y,Z]) rfl V.o
 ·have t1:decide (q<1)=false:=by simp[hq]
  have HQ:=κ hq;have aM:1≤q:=by omega
  clear hq
  go_upto_region 4 with fail
  obtain⟨H,I,J,K⟩:=q4_of P1.o;have Q:=place_any sh ca b m nr no cr co bk.op k w3 hno (Rd.of_own (by have h:=P.o.o;exact h)) (by omega);by_cases hp:posE bk.op k<bk.op.length
  case neg=>
   rw[placeF_f hp]at Q;have HP:=κ hp;clear hp
   go_upto_region 5 with(go_at_call 138;refine Q.mono ?_;rintro e w4 ⟨rfl,g⟩)
   have B4:Hid (Bo w.heap.size w4 b m cr co F bk):=⟨own_below P.o.r g,own_below P.o.o g,P.o.e,fun j hj=>own_below (P.o.own j hj) g,P.o.ap⟩;have R:=κ (Blk.below' P1.o g);have t:=κ (Blk.below' P3.o g);have ad:=κ (below_step ac.o g);clear H I J K g Q
   have G:Hid (fillF bk k q=(⟨sh,ca,bk.rows,bk.op⟩,15)):=by
    show _=_;unfold fillF;rw[if_neg (show ¬q<1 from by have:=HQ.o;omega),if_neg (show ¬posE bk.op k<bk.op.length from by have:=HP.o;omega),hsh.o.1,hsh.o.2]
   have U:Blk (st4 w4 z (ι sh) (ι ca) (.slice b nr cr) (.slice m no co)) z 181 (vB sh ca b nr cr m no co):=st4_blk t.o
   have f:MadeB2 (fillF bk k q).1 (fillF bk k q).2 w (.returned (.tuple #[.agg (vB sh ca b nr cr m no co),ι 15])) (st4 w4 z (ι sh) (ι ca) (.slice b nr cr) (.slice m no co)):=by
    obtain⟨y1,y2,y3⟩:=Be_fin (Be_of B4.o hnr.o t.o ad.o) t.o ab.o (.int .i64 sh) (.int .i64 ca) (.slice b nr cr) (.slice m no co) sh ca;rw[G.o];refine⟨b,m,cr,co,F,?_,y1,y2,y3⟩;unfold bkA;simp[hno.o,hnr.o]
   have V:=κ f;clear f;obtain⟨H,I,J,K⟩:=q4_of R.o;obtain⟨z0,z1,z2,z3,f0,f1,f2,f3⟩:=z4_of t.o
   go_wp2_with fail
   obtain⟨W,X,Y,Z⟩:=q4_of U;clear U;unfold st4 at W X Y Z V;exact bodyPost_ret (v:= .tuple #[.agg #[ι sh,ι ca,.slice b nr cr,.slice m no co],ι 15]) (by simp[results,Tryz.results99,go_sem,W,X,Y,Z]) rfl V.o
  case pos=>
   rw[placeF_t hp]at Q;obtain⟨go,aE⟩:=own_at P.o.o (by omega);subst aE;have HP:=κ hp;obtain⟨i,hi⟩:=ν (posE bk.op k);rw[←hi]at Q;have aj:i<bk.op.length:=by rw[hi];exact hp
   have aN:i<no:=by rw[hno.o];exact aj
   have HI:=κ hi;have S:=κ aj;have aO:((i:Int)== -1)=false:=by rw[beq_eq_false_iff_ne];omega
   clear hp hi aj
   go_upto_region 5 with(go_at_call 138;refine Q.mono ?_;rintro e w4 ⟨rfl,g⟩)
   have B4:Hid (Bo w.heap.size w4 b (some (α go 0)) cr co F bk):=⟨own_below P.o.r g,own_below P.o.o g,P.o.e,fun j hj=>own_below (P.o.own j hj) g,P.o.ap⟩;have R:=κ (Blk.below' P1.o g);have t:=κ (Blk.below' P3.o g);have ad:=κ (below_step ac.o g);clear H I J K g Q P P1 P3 ac;obtain⟨_,_,aF,av,T,l⟩:=own_room B4.o.o;rw[←hno.o]at aF;have c8:=l (i*11+8) _ (ens_get bk.op i 8 S.o (by decide));have c9:=l (i*11+9) _ (ens_get bk.op i 9 S.o (by decide));have g8:=(T (i*11+8) (by omega)).2;have g9:=(T (i*11+9) (by omega)).2;clear T l;obtain⟨E,hE⟩:=ν (gE bk.op i);rw[←hE]at c8 c9;have HE:=κ hE;clear hE;obtain⟨id,⟨a,s,x,p,q',n,tt⟩,lf,st,ep⟩:=E;replace c8:w4.cell? ⟨go,i*11+8,none⟩=some (.int .i64 lf):=c8;replace c9:w4.cell? ⟨go,i*11+9,none⟩=some (.int .i64 st):=c9;obtain⟨H,I,J,K,f0,f1,f2,f3⟩:=z4_of R.o;have aw:=κ (hwf.o i S.o);rw[←HE.o]at aw;by_cases hlt:lf<q
   ·have t1:decide (lf<q)=true:=by simp[hlt]
    have L:Hid (fillF bk k q=(bk,17)):=by
     show _=_;unfold fillF;rw[if_neg (show ¬q<1 from by have:=HQ.o;omega),if_pos HP.o,←HI.o,←HE.o,if_pos hlt]
    clear hlt
    go_upto_region 8 with fail
    clear H I J K f0 f1 f2 f3
    have G:Hid (fillF bk k q=(⟨sh,ca,bk.rows,bk.op⟩,17)):=by
     show _=_;rw[L.o,hsh.o.1,hsh.o.2]
    have U:Blk (st4 w4 z (ι sh) (ι ca) (.slice b nr cr) (.slice (some (α go 0)) no co)) z 181 (vB sh ca b nr cr (some (α go 0)) no co):=st4_blk t.o
    have f:MadeB2 (fillF bk k q).1 (fillF bk k q).2 w (.returned (.tuple #[.agg (vB sh ca b nr cr (some (α go 0)) no co),ι 17])) (st4 w4 z (ι sh) (ι ca) (.slice b nr cr) (.slice (some (α go 0)) no co)):=by
     obtain⟨y1,y2,y3⟩:=Be_fin (Be_of B4.o hnr.o t.o ad.o) t.o ab.o (.int .i64 sh) (.int .i64 ca) (.slice b nr cr) (.slice (some ⟨go,0,none⟩) no co) sh ca;rw[G.o];refine⟨b,(some (α go 0)),cr,co,F,?_,y1,y2,y3⟩;unfold bkA;simp[hno.o,hnr.o]
    have V:=κ f;clear f;obtain⟨H,I,J,K⟩:=q4_of R.o;obtain⟨z0,z1,z2,z3,f0,f1,f2,f3⟩:=z4_of t.o
    go_wp2_with fail
    obtain⟨W,X,Y,Z⟩:=q4_of U;clear U;unfold st4 at W X Y Z V;exact bodyPost_ret (v:= .tuple #[.agg #[ι sh,ι ca,.slice b nr cr,.slice (some (α go 0)) no co],ι 17]) (by simp[results,Tryz.results99,go_sem,W,X,Y,Z]) rfl V.o
   ·have t1:decide (lf<q)=false:=by simp[hlt]
    have e1:wrap64 (lf-q)=lf-q:=by
     have h1:=aw.o;have h2:=HQ.o;simp only[inI]at h1;unfold wrap64;omega
    have ax:=κ hlt;clear hlt;have ay:gB≠go:=fun e=>blk_own_ne R.o B4.o.o (by decide) (by rw[e];rfl)
    have az:z≠go:=fun e=>blk_own_ne t.o B4.o.o (by decide) (by rw[e];rfl)
    have B5:Hid (Bo w.heap.size (w4.setCell (α go (i*11+8)) (ι (lf-q))) b (some (α go 0)) cr co F (⟨bk.sh,bk.ca,bk.rows,bk.op.set i (setL (gE bk.op i) (lf-q))⟩:Bk)):=Bo_setE B4.o (i*11+8) _ _ (by simp) (ens_setL _ _ S.o _);have aa:Hid (Blk (w4.setCell (α go (i*11+8)) (ι (lf-q))) gB 181 (vB sh ca b nr cr (some (α go 0)) no co)):=far_st R.o ay _;have O:Hid (Blk (w4.setCell (α go (i*11+8)) (ι (lf-q))) z 181 (vB 0 0 none 0 0 none 0 0)):=far_st t.o az _;have ak:Hid (Below w.heap.size w (w4.setCell (α go (i*11+8)) (ι (lf-q)))):=ad.o.setCell (p:=(α go (i*11+8))) (own_fresh B4.o.o (α go 0) rfl) _
    go_upto_region 10 with fail
    clear H I J K f0 f1 f2 f3 c8 c9 g8 g9 B4 R t ad ay az;generalize (w4.setCell (α go (i*11+8)) (ι (lf-q)))=w5 at B5 aa O ak ⊢;obtain⟨_,_,_,_,_,l⟩:=own_room B5.o.o;have c8:=l (i*11+8) _ (ens_get (bk.op.set i (setL (gE bk.op i) (lf-q))) i 8 (by rw[List.length_set];exact S.o) (by decide));rw[gE_set _ _ S.o]at c8;replace c8:w5.cell? ⟨go,i*11+8,none⟩=some (.int .i64 (lf-q)):=c8;clear l;obtain⟨H,I,J,K,f0,f1,f2,f3⟩:=z4_of aa.o;have aA:(⟨bk.sh,bk.ca,bk.rows,bk.op.set i (setL (gE bk.op i) (lf-q))⟩:Bk).op.length=bk.op.length:=by simp
    have aG:Hid (no=(⟨bk.sh,bk.ca,bk.rows,bk.op.set i (setL (gE bk.op i) (lf-q))⟩:Bk).op.length):=by show _=_;rw[aA];exact hno.o
    clear aA;by_cases h0:lf-q=0
    ·have t2:(lf-q==0)=true:=by simp[h0]
     have L:Hid (fillF bk k q=(⟨bk.sh,bk.ca,bk.rows,delE bk.op i⟩,0)):=by
      show _=_;unfold fillF;rw[if_neg (show ¬q<1 from by have:=HQ.o;omega),if_pos HP.o,←HI.o,←HE.o,if_neg (show ¬lf<q from by have:=ax.o;omega),if_pos h0]
     clear h0;obtain⟨y,al⟩:=ν (i+(no-(i+1)));have aH:(co:Int)≤9223372036854775807:=by unfold maxLen at av;omega
     clear av;have D:=deleteE go no co i (i+1) (ens (⟨bk.sh,bk.ca,bk.rows,bk.op.set i (setL (gE bk.op i) (lf-q))⟩:Bk).op) w.heap.size w5 (by have h:=B5.o.o;rw[←aG.o]at h;exact h) (ens_one _) (by omega) (by omega) aH;rw[←al,show((i+1:Nat):Int)=(i:Int)+1 from rfl]at D;have ei:wrap64 ((i:Int)+1)=(i:Int)+1:=by unfold wrap64;omega
     have aI:=κ al;clear al
     go_upto_region 12 with(go_at_call 139;refine D.mono ?_;rintro e w5 ⟨rfl,aB,af⟩;have k9:=Blk_grown aa.o af (some_ne (fun e=>blk_own_ne aa.o B5.o.o (by decide) (by rw[←e];rfl)));obtain⟨p0,p1,p2,p3,q0,q1,q2,q3⟩:=z4_of k9)
     have aC:=κ (ξ (blk_st k9 3 (.slice (some (α go 0)) y co)));have ag:Hid (Blk (w5.setCell (α gB 3) (.slice (some (α go 0)) y co)) z 181 (vB 0 0 none 0 0 none 0 0)):=far_st (Blk_grown O.o af (some_ne (fun e=>blk_own_ne O.o B5.o.o (by decide) (by rw[←e];rfl)))) am.o _;have aD:Hid (Be w (w5.setCell (α gB 3) (.slice (some (α go 0)) y co)) z nr cr b (some (α go 0)) F bk.rows (delE (⟨bk.sh,bk.ca,bk.rows,bk.op.set i (setL (gE bk.op i) (lf-q))⟩:Bk).op i)):=Be_del B5.o hnr.o O.o aa.o ak.o aB af _ an.o;clear p0 p1 p2 p3 q0 q1 q2 q3 k9 aB af D H I J K f0 f1 f2 f3;generalize w5.setCell (α gB 3) (.slice (some (α go 0)) y co)=w6 at aC ag aD ⊢
     have G:Hid (fillF bk k q=(⟨sh,ca,bk.rows,delE bk.op i⟩,0)):=by
      show _=_;rw[L.o,hsh.o.1,hsh.o.2]
     have aJ:Hid (y=(delE bk.op i).length):=by show _=_;rw[delE_len _ _ S.o,←hno.o];exact aI.o
     have U:Blk (st4 w6 z (ι sh) (ι ca) (.slice b nr cr) (.slice (some (α go 0)) y co)) z 181 (vB sh ca b nr cr (some (α go 0)) y co):=st4_blk ag.o
     have f:MadeB2 (fillF bk k q).1 (fillF bk k q).2 w (.returned (.tuple #[.agg (vB sh ca b nr cr (some (α go 0)) y co),ι 0])) (st4 w6 z (ι sh) (ι ca) (.slice b nr cr) (.slice (some (α go 0)) y co)):=by
      obtain⟨y1,y2,y3⟩:=Be_fin (show Be _ _ _ _ _ _ _ _ _ (delE bk.op i) from by have h:=aD.o;rw[show delE (⟨bk.sh,bk.ca,bk.rows,bk.op.set i (setL (gE bk.op i) (lf-q))⟩:Bk).op i=delE bk.op i from delE_set _ _ _]at h;exact h) ag.o ab.o (.int .i64 sh) (.int .i64 ca) (.slice b nr cr) (.slice (some ⟨go,0,none⟩) y co) sh ca;rw[G.o];refine⟨b,(some (α go 0)),cr,co,F,?_,y1,y2,y3⟩;unfold bkA;simp[aJ.o,hnr.o]
     have V:=κ f;clear f;obtain⟨H,I,J,K⟩:=q4_of aC.o;obtain⟨z0,z1,z2,z3,f0,f1,f2,f3⟩:=z4_of ag.o
     go_wp2_with fail
     obtain⟨W,X,Y,Z⟩:=q4_of U;clear U;unfold st4 at W X Y Z V;exact bodyPost_ret (v:= .tuple #[.agg #[ι sh,ι ca,.slice b nr cr,.slice (some (α go 0)) y co],ι 0]) (by simp[results,Tryz.results99,go_sem,W,X,Y,Z]) rfl V.o
    ·have t2:(lf-q==0)=false:=by simp[h0]
     have G:Hid (fillF bk k q=(⟨sh,ca,bk.rows,bk.op.set i (setL (gE bk.op i) (lf-q))⟩,0)):=by
      show _=_;unfold fillF;rw[if_neg (show ¬q<1 from by have:=HQ.o;omega),if_pos HP.o,←HI.o,←HE.o,if_neg (show ¬lf<q from by have:=ax.o;omega),if_neg h0,hsh.o.1,hsh.o.2]
     clear h0
     go_upto_region 12 with fail
     clear H I J K f0 f1 f2 f3 c8;have U:Blk (st4 w5 z (ι sh) (ι ca) (.slice b nr cr) (.slice (some (α go 0)) no co)) z 181 (vB sh ca b nr cr (some (α go 0)) no co):=st4_blk O.o
     have f:MadeB2 (fillF bk k q).1 (fillF bk k q).2 w (.returned (.tuple #[.agg (vB sh ca b nr cr (some (α go 0)) no co),ι 0])) (st4 w5 z (ι sh) (ι ca) (.slice b nr cr) (.slice (some (α go 0)) no co)):=by
      obtain⟨y1,y2,y3⟩:=Be_fin (Be_of B5.o hnr.o O.o ak.o) O.o ab.o (.int .i64 sh) (.int .i64 ca) (.slice b nr cr) (.slice (some ⟨go,0,none⟩) no co) sh ca;rw[G.o];refine⟨b,(some (α go 0)),cr,co,F,?_,y1,y2,y3⟩;unfold bkA;simp[hno.o,hnr.o]
     have V:=κ f;clear f;obtain⟨H,I,J,K⟩:=q4_of aa.o;obtain⟨z0,z1,z2,z3,f0,f1,f2,f3⟩:=z4_of O.o
     go_wp2_with fail
     obtain⟨W,X,Y,Z⟩:=q4_of U;clear U;unfold st4 at W X Y Z V;exact bodyPost_ret (v:= .tuple #[.agg #[ι sh,ι ca,.slice b nr cr,.slice (some (α go 0)) no co],ι 0]) (by simp[results,Tryz.results99,go_sem,W,X,Y,Z]) rfl V.o
end Bkc
end Go.Proofs.YtcccdikhfgpamaaGreat
