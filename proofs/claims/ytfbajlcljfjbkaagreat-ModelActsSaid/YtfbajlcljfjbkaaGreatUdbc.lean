/- Texts side by side. -/
import Derived.Laws.StructEq
import Derived.Test.YtfbajlcljfjbkaaGreatUdae
set_option linter.unusedVariables false
set_option linter.unusedSimpArgs false
set_option maxRecDepth 100000
set_option maxHeartbeats 16000000
namespace Go.Proofs.YtfbajlcljfjbkaaGreat
open Kap Abv Go.ChangeShapes Go.WideShapes Go.ChangeAt Go.RowKit Mem Tre Ref3 Law3 Crd CrdB CrdC Rr4 Bkp Bks Bkf Bkg Bcl Dlk Stk Apt Bko Bku Bka Bkc Lat Lax
namespace Lsm
theorem neE(id a s p q n t lf st ep:Int)(x:Bool)(w:World):(binOp .neq 122 (.agg #[.int .i64 id,.int .i64 a,.int .i64 s,.bool x,.int .i64 p,.int .i64 q,.int .i64 n,.int .i64 t,.int .i64 lf,.int .i64 st,.int .i64 ep]) (.agg #[.int .i64 id,.int .i64 a,.int .i64 s,.bool x,.int .i64 p,.int .i64 q,.int .i64 n,.int .i64 t,.int .i64 lf,.int .i64 st,.int .i64 ep])).run Tryz.prog w= .ok (.bool false) w:=by
 have p1:Tryz.prog.stoodInHeld 122=false:=by kernel_rfl
 have p2:Tryz.prog.stoodInHeld 47=false:=by kernel_rfl
 have u1:Tryz.prog.underlying 122=some (.struct (Tryz.prog.fieldsOf 122)):=by kernel_rfl
 have u2:Tryz.prog.underlying 47=some (.struct (Tryz.prog.fieldsOf 47)):=by kernel_rfl
 rw[run_neq_struct,run_equalIn_agg _ _ _ _ _ u1 p1];simp only[Program.fieldsOf,Tryz.underlying122];simp[Op.eqFields,go_sem,Program.fieldsOf,Tryz.underlying122,Tryz.underlying47,Tryz.underlying3,Tryz.underlying2,Tryz.underlying4,part]
attribute [local go_sem high] neE
theorem k3_of{W:World}{g:Nat}{te:TypeId}{v0 v1 v2:Value}(h:Blk W g te #[v0,v1,v2]):W.cell? ⟨g,0,none⟩=some v0∧W.cell? ⟨g,1,none⟩=some v1∧W.cell? ⟨g,2,none⟩=some v2∧W.frozen? ⟨g,0,none⟩=false∧W.frozen? ⟨g,1,none⟩=false∧W.frozen? ⟨g,2,none⟩=false:=⟨h.cell 0,h.cell 1,h.cell 2,h.thaw 0,h.thaw 1,h.thaw 2⟩
theorem same7_any(sh ca:Int)(A C A2 C2:Option Addr)(nr no c d c2 d2:Nat)(rl rl2:List Rc)(bk:Bk)(w:World)(hnr:Hid (nr=bk.rows.length))(hno:Hid (no=bk.op.length))(h1:Hid (Bm w A C rl bk))(h2:Hid (Bm w A2 C2 rl2 bk))(m1:nr≤1000)(m2:no≤1000)(m3:Hid (∀i,i<nr→(gR bk.rows i).ns.length≤1000)):
  Calls Tryz.prog 31 #[.agg #[.int .i64 sh,.int .i64 ca,.slice A nr c,.slice C no d],.agg #[.int .i64 sh,.int .i64 ca,.slice A2 nr c2,.slice C2 no d2]] w (MadeB true w):=by
 have b0:=κ (γ w (.cells (vB sh ca A nr c C no d) 110) (.cells (vB sh ca A2 nr c2 C2 no d2) 110));have K1':=κ ((Blk.fresh w 110 (vB sh ca A nr c C no d)).alloc (.cells (vB sh ca A2 nr c2 C2 no d2) 110));have K2':=κ (δ (w.alloc (.cells (vB sh ca A nr c C no d) 110)) 110 (vB sh ca A2 nr c2 C2 no d2) (w.heap.size+1))
 go_enter Tryz.func31,Tryz.ntmps31
 go_upto_region 1 with fail
 obtain⟨gA,hgA⟩:=ν w.heap.size;obtain⟨gB,hgB⟩:=ν (w.heap.size+1);have K1:=κ (ζ hgA K1'.out);have K2:=κ (ζ hgB K2'.out);simp only[←hgB];simp only[←hgA];clear hgA hgB K1' K2';generalize ((w.alloc (.cells (vB sh ca A nr c C no d) 110)).alloc (.cells (vB sh ca A2 nr c2 C2 no d2) 110))=w0 at b0 K1 K2 ⊢;have X1:Hid (∀W,Below w0.heap.size w0 W→Bm W A C rl bk):=fun W hb=>(h1.out.below b0.out).below hb
 have X2:Hid (∀W,Below w0.heap.size w0 W→Bm W A2 C2 rl2 bk):=fun W hb=>(h2.out.below b0.out).below hb
 obtain⟨k0,k1,k2,k3⟩:=q4_of K1.out;obtain⟨j0,j1,j2,j3⟩:=q4_of K2.out;have e1:(sh != sh)=false:=by simp
 have e2:(ca != ca)=false:=by simp
 have e3:((nr:Int) != (nr:Int))=false:=by simp
 have e4:((no:Int) != (no:Int))=false:=by simp
 have e5:(sh==sh)=true:=by simp
 have e6:(ca==ca)=true:=by simp
 go_wp2_with fail
 clear e1 e2 e5 e6
 go_loopg [5] no (fun g s5 w'=> ∃(k nq:Nat),k+g=no∧s5= ι k∧w'=w0.drewN nq)
 case atStart=>exact⟨0,0,by omega,rfl,rfl⟩
 case round=>
  obtain⟨i,nq,hk,rfl,rfl⟩:=hrel;by_cases hlt:i<no
  ·obtain⟨g,rfl⟩: ∃g,gk=g+1:=⟨gk-1,by omega⟩;have hil:i<bk.op.length:=by rw[←hno.out];exact hlt
   obtain⟨b1,o1,hA1,hb1,hc1⟩:=Ens.at (X1.out w0 ψ).o (by omega);obtain⟨b2,o2,hA2,hb2,hc2⟩:=Ens.at (X2.out w0 ψ).o (by omega);have f1:=hc1 i hil;have f2:=hc2 i hil;clear hc1 hc2 hil;generalize gE bk.op i=E at f1 f2;obtain⟨id,⟨a,s,x,p,q,n,t⟩,lf,st,ep⟩:=E;obtain⟨c0,c1,c2',c3,c4,c5,c6,c7,c8,c9,c10⟩:=f1;obtain⟨d0,d1,d2',d3,d4,d5,d6,d7,d8,d9,d10⟩:=f2;simp only[]at c0 c1 c2' c3 c4 c5 c6 c7 c8 c9 c10 d0 d1 d2' d3 d4 d5 d6 d7 d8 d9 d10;subst hA1;subst hA2;have t0:decide ((i:Int)<(no:Int))=true:=by simp;omega
   go_wp2_with fail
   go_quiet (fail)
   go_wp2_with fail
   go_roundg g
   case measure=>omega
   case rel=>exact⟨i+1,_,by omega,by go_num,rfl⟩
  ·have t0:decide ((i:Int)<(no:Int))=false:=by simp;omega
   have bq:Hid (Below w0.heap.size w0 (w0.drewN nq)):=Below.drewN' ψ nq
   go_wp2_with fail
   clear k0 k1 k2 k3 j0 j1 j2 j3 e3 e4 t0
   go_loopg [6] nr (fun g s6 w'=> ∃(k:Nat),k+g=nr∧s6= ι k∧Hid (Below w0.heap.size w0 w'))
   case atStart=>exact⟨0,by omega,rfl,bq⟩
   case round=>
    clear bq;obtain⟨i,hk2,rfl,bq⟩:=hrel;have Ka:=κ (Blk.below' K1.out bq.out);have Kb:=κ (Blk.below' K2.out bq.out);obtain⟨k0,k1,k2,k3⟩:=q4_of Ka.out;obtain⟨j0,j1,j2,j3⟩:=q4_of Kb.out;by_cases hlt2:i<nr
    ·obtain⟨g,rfl⟩: ∃g,gk=g+1:=⟨gk-1,by omega⟩;have t0:decide ((i:Int)<(nr:Int))=true:=by simp;omega
     have B1:=X1.out wr bq.out;have B2:=X2.out wr bq.out;have hi1:i<rl.length:=by rw[B1.len,←hnr.out];exact hlt2
     have hi2:i<rl2.length:=by rw[B2.len,←hnr.out];exact hlt2
     obtain⟨b1,o1,hA1,hb1,hc1⟩:=Rcs.at B1.r (by omega);obtain⟨b2,o2,hA2,hb2,hc2⟩:=Rcs.at B2.r (by omega);have f1:=hc1 i hi1;have f2:=hc2 i hi2;have N1:=κ (fun W hb=>(X1.out W hb).n i hi1);have N2:=κ (fun W hb=>(X2.out W hb).n i hi2);have r1:=gC_row B1.e hi1;have r2:=gC_row B2.e hi2;rw[r1]at f1 N1;rw[r2]at f2 N2;have hnl:=κ (m3.out i hlt2);obtain⟨An,hAn⟩:=ν ((gC rl i).A);obtain⟨cn,hcn⟩:=ν ((gC rl i).c);obtain⟨Am,hAm⟩:=ν ((gC rl2 i).A);obtain⟨cm,hcm⟩:=ν ((gC rl2 i).c);rw[←hAn]at N1;rw[←hAm]at N2;rw[←hAn,←hcn]at f1;rw[←hAm,←hcm]at f2;clear hAn hcn hAm hcm hc1 hc2 r1 r2 B1 B2 hi1 hi2;generalize gR bk.rows i=Rw at f1 f2 N1 N2 hnl;obtain⟨ns,sec,cnt⟩:=Rw;obtain⟨nn,hnn⟩:=ν ns.length;simp only[←hnn]at f1 f2 hnl;have HNN:=κ hnn;clear hnn;have HNL:=hnl.out;clear hnl;simp only at N1 N2;obtain⟨c0,c1',c2'⟩:=f1;obtain⟨d0,d1',d2'⟩:=f2;subst hA1;subst hA2
     go_upto_region 11 with fail
     go_cut [7,8] (fun s7 s8 wx=> ∃gX gY,s7= .pointer (some (α gX 0))∧s8= .pointer (some (α gY 0))∧Hid (Blk wx gX 153 (vR An nn cn sec cnt))∧Hid (Blk wx gY 153 (vR Am nn cm sec cnt))∧Hid (Below w0.heap.size w0 wx))
     case first=>
      let T112:World→Prop:=fun w'=>w'.cell? (α gA 2)=some (.slice (some (α b1 o1)) nr c)∧w'.cell? (α gB 2)=some (.slice (some (α b2 o2)) nr c2)∧w'.cell? (α b1 (o1+i*3))=some (.slice An nn cn)∧w'.cell? (α b1 (o1+i*3+1))=some (ι sec)∧w'.cell? (α b1 (o1+i*3+2))=some (ι cnt)∧w'.cell? (α b2 (o2+i*3))=some (.slice Am nn cm)∧w'.cell? (α b2 (o2+i*3+1))=some (ι sec)∧w'.cell? (α b2 (o2+i*3+2))=some (ι cnt)
      have HT:Hid (T112 (wr.drew)):=⟨k2,j2,c0,c1',c2',d0,d1',d2'⟩;have HB:=κ (Below.drew bq.out);refine Ω T112 [13] ?_;refine jA 0 HT.out ?_;refine jB 1 HT.out ?_;refine jA 2 HT.out ?_;refine jA 3 HT.out ?_;refine jB 4 HT.out ?_;refine jA 5 HT.out ?_;refine jB 6 HT.out ?_;refine jA 7 HT.out ?_;refine jA 8 HT.out ?_;refine jB 9 HT.out ?_;have U1:=β wr.drew (.cells (vR none 0 0 0 0) 153);have U2:Below wr.drew.heap.size wr.drew ((wr.drew.alloc (.cells (vR none 0 0 0 0) 153)).alloc (.cells (vR none 0 0 0 0) 153)):=U1.alloc (by simp) _
      have KK:Hid (∀W,Below wr.heap.size wr W→W.cell? (α gA 2)=some (.slice (some (α b1 o1)) nr c)∧W.cell? (α gB 2)=some (.slice (some (α b2 o2)) nr c2)∧W.cell? (α b1 (o1+i*3))=some (.slice An nn cn)∧W.cell? (α b1 (o1+i*3+1))=some (ι sec)∧W.cell? (α b1 (o1+i*3+2))=some (ι cnt)∧W.cell? (α b2 (o2+i*3))=some (.slice Am nn cm)∧W.cell? (α b2 (o2+i*3+1))=some (ι sec)∧W.cell? (α b2 (o2+i*3+2))=some (ι cnt)):=by
       intro W hb;have KA:=Blk.below' Ka.out hb;have KB:=Blk.below' Kb.out hb;have q: ∀(b o:Nat) (v:Value),b<wr.heap.size→wr.cell? (α b o)=some v→W.cell? (α b o)=some v:=fun b o v hlt hc=>by rw[World.cell?_of_block (hb.block b hlt)];exact hc
       exact⟨KA.cell 2,KB.cell 2,q _ _ _ hb1 HT.out.2.2.1,q _ _ _ hb1 HT.out.2.2.2.1,q _ _ _ hb1 HT.out.2.2.2.2.1,q _ _ _ hb2 HT.out.2.2.2.2.2.1,q _ _ _ hb2 HT.out.2.2.2.2.2.2.1,q _ _ _ hb2 HT.out.2.2.2.2.2.2.2⟩
      have HT1:=κ (KK.out _ (CrdB.below_step (Below.drew ψ) U1));have HT2:=κ (KK.out _ (CrdB.below_step (Below.drew ψ) U2));have hge:=κ bq.out.size;clear U1 U2;refine Rbc.wpL_two (m:=10) (n:=11) (by kernel_rfl) rfl rfl ?_ ?_
      ·intro K' hK;go_simp;refine hK.out _ _ HT1.out ?_;clear hK K';refine jP ?_;refine jN 11 fun K' hK=>?_
       go_simp;refine hK.out _ _ HT2.out ?_;clear hK K';refine jP ?_;have Q1:Hid (Blk ((wr.alloc (.cells (vR An nn cn sec cnt) 153)).alloc (.cells (vR Am nn cm sec cnt) 153)).drew wr.heap.size 153 (vR An nn cn sec cnt)):=(Blk.fresh wr _ _).alloc _;have Q2:=κ (ε (blk_hd (by simp):Blk ((wr.alloc (.cells (vR An nn cn sec cnt) 153)).alloc (.cells (vR Am nn cm sec cnt) 153)) (wr.heap.size+1) 153 (vR Am nn cm sec cnt)));have HB5:Hid (Below w0.heap.size w0 ((wr.alloc (.cells (vR An nn cn sec cnt) 153)).alloc (.cells (vR Am nn cm sec cnt) 153)).drew):=Below.drew ((bq.out.alloc hge.out _).alloc (by have:=hge.out;simp;omega) _);refine jN 12 fun K' hK=>?_
       go_simp;refine hK.out _ _ (KK.out _ (by first|exact Below.drew ((ψ.alloc τ _).alloc (by simp) _)|exact((Below.drew ψ).alloc τ _).alloc (by simp) _)) ?_;clear hK K';refine jP ?_;refine jV 13 fun K' hK=>?_
       go_simp;refine hK.out _ _ ?_;clear hK K';refine jP ?_;refine Δ ?_
       go_wp2_with fail
       go_meet;exact⟨wr.heap.size,(wr.heap.size+1),rfl,rfl,Q1,Q2,HB5⟩
      ·intro K' hK;go_simp;refine hK.out _ _ HT1.out ?_;clear hK K';refine jP ?_;refine jN 10 fun K' hK=>?_
       go_simp;refine hK.out _ _ HT2.out ?_;clear hK K';refine jP ?_;have Q1:Hid (Blk ((wr.alloc (.cells (vR Am nn cm sec cnt) 153)).alloc (.cells (vR An nn cn sec cnt) 153)).drew wr.heap.size 153 (vR Am nn cm sec cnt)):=(Blk.fresh wr _ _).alloc _;have Q2:=κ (ε (blk_hd (by simp):Blk ((wr.alloc (.cells (vR Am nn cm sec cnt) 153)).alloc (.cells (vR An nn cn sec cnt) 153)) (wr.heap.size+1) 153 (vR An nn cn sec cnt)));have HB5:Hid (Below w0.heap.size w0 ((wr.alloc (.cells (vR Am nn cm sec cnt) 153)).alloc (.cells (vR An nn cn sec cnt) 153)).drew):=Below.drew ((bq.out.alloc hge.out _).alloc (by have:=hge.out;simp;omega) _);refine jN 12 fun K' hK=>?_
       go_simp;refine hK.out _ _ (KK.out _ (by first|exact Below.drew ((ψ.alloc τ _).alloc (by simp) _)|exact((Below.drew ψ).alloc τ _).alloc (by simp) _)) ?_;clear hK K';refine jP ?_;refine jV 13 fun K' hK=>?_
       go_simp;refine hK.out _ _ ?_;clear hK K';refine jP ?_;refine Δ ?_
       go_wp2_with fail
       go_meet;exact⟨(wr.heap.size+1),wr.heap.size,rfl,rfl,Q2,Q1,HB5⟩
     case rest=>
      obtain⟨gX,gY,rfl,rfl,HX,HY,HB⟩:=hcut
      rename World=>w5
      clear k0 k1 k2 k3 j0 j1 j2 j3 c0 c1' c2' d0 d1' d2' Ka Kb t0;obtain⟨x0,x1,x2,_,_,_⟩:=k3_of HX.out;obtain⟨y0,y1,y2,_,_,_⟩:=k3_of HY.out;have e1:(sec != sec)=false:=by simp
      have e2:(cnt != cnt)=false:=by simp
      have e3:((nn:Int) != (nn:Int))=false:=by simp
      have e4:(sec==sec)=true:=by simp
      have e5:(cnt==cnt)=true:=by simp
      have P1:=κ (N1.out w5 HB.out);have P2:=κ (N2.out w5 HB.out)
      go_wp2_with fail
      clear e1 e2 e3 e4 e5
      go_loopg [9] nn (fun g s9 w'=> ∃(k nq:Nat),k+g=nn∧s9= ι k∧w'=w5.drewN nq)
      case atStart=>exact⟨0,0,by omega,rfl,rfl⟩
      case round=>
       obtain⟨k,nq,hk9,rfl,rfl⟩:=hrel;by_cases hlt9:k<nn
       ·obtain⟨g9,rfl⟩: ∃g,gk=g+1:=⟨gk-1,by omega⟩;have hkl:k<ns.length:=by rw[←HNN.out];exact hlt9
        obtain⟨b3,o3,hA3,hb3,hc3⟩:=Ris.at P1.out hkl;obtain⟨b4,o4,hA4,hb4,hc4⟩:=Ris.at P2.out hkl;have d3:=hc3 k hkl;have d4:=hc4 k hkl;clear hc3 hc4 hkl;subst hA3;subst hA4;have t0:decide ((k:Int)<(nn:Int))=true:=by simp;omega
        have t1:(gI ns k != gI ns k)=false:=by simp
        have t2:(gI ns k==gI ns k)=true:=by simp
        go_wp2_with fail
        go_quiet (fail)
        go_wp2_with fail
        go_roundg g9
        case measure=>omega
        case rel=>exact⟨k+1,_,by omega,by go_num,rfl⟩
       ·have t0:decide ((k:Int)<(nn:Int))=false:=by simp;omega
        have hbr:=κ (Below.drewN' HB.out nq)
        go_wp2_with fail
        go_roundg g
        case measure=>omega
        case rel=>exact⟨i+1,by omega,by go_num,hbr⟩
    ·have t0:decide ((i:Int)<(nr:Int))=false:=by simp;omega
     have hfin:=κ (CrdB.below_step b0.out bq.out)
     go_wp2_with fail
     go_ret;exact madeB_mk rfl hfin.out
end Lsm
namespace Lfr
theorem c7o{W:World}{g:Nat}{te:TypeId}{v0 v1 v2 v3 v4 v5 v6:Value}(hk:Blk W g te #[v0,v1,v2,v3,v4,v5,v6]):W.cell? ⟨g,0,none⟩=some v0∧W.cell? ⟨g,1,none⟩=some v1∧W.cell? ⟨g,2,none⟩=some v2∧W.cell? ⟨g,3,none⟩=some v3∧W.cell? ⟨g,4,none⟩=some v4∧W.cell? ⟨g,5,none⟩=some v5∧W.cell? ⟨g,6,none⟩=some v6:=⟨hk.cell 0,hk.cell 1,hk.cell 2,hk.cell 3,hk.cell 4,hk.cell 5,hk.cell 6⟩
theorem entry_any(e:En)(w:World):Calls Tryz.prog 63 #[enA e] w (fun r w'=>r= .returned (enA e)∧Below w.heap.size w w'):=by
 obtain⟨id,⟨a,s,x,p,q,n,t⟩,lf,st,ep⟩:=e;show Calls Tryz.prog 63 #[.agg #[.int .i64 id,.int .i64 a,.int .i64 s,.bool x,.int .i64 p,.int .i64 q,.int .i64 n,.int .i64 t,.int .i64 lf,.int .i64 st,.int .i64 ep]] w (fun r w'=>r= .returned (.agg #[.int .i64 id,.int .i64 a,.int .i64 s,.bool x,.int .i64 p,.int .i64 q,.int .i64 n,.int .i64 t,.int .i64 lf,.int .i64 st,.int .i64 ep])∧Below w.heap.size w w');have b0:Hid (Below w.heap.size w (((w.alloc (.cells (vE id a s x p q n t lf st ep) 157)).alloc (.cells (vE 0 0 0 false 0 0 0 0 0 0 0) 122)).alloc (.cells (vO a s x p q n t) 60))):=((ψ.alloc τ _).alloc (by simp) _).alloc (by simp;omega) _;have K0:Hid (Blk (((w.alloc (.cells (vE id a s x p q n t lf st ep) 157)).alloc (.cells (vE 0 0 0 false 0 0 0 0 0 0 0) 122)).alloc (.cells (vO a s x p q n t) 60)) w.heap.size 157 (vE id a s x p q n t lf st ep)):=((Blk.fresh w _ _).alloc _).alloc _;have R0:Hid (Blk (((w.alloc (.cells (vE id a s x p q n t lf st ep) 157)).alloc (.cells (vE 0 0 0 false 0 0 0 0 0 0 0) 122)).alloc (.cells (vO a s x p q n t) 60)) (w.heap.size+1) 122 (vE 0 0 0 false 0 0 0 0 0 0 0)):=(blk_hd (by simp):Blk ((w.alloc (.cells (vE id a s x p q n t lf st ep) 157)).alloc (.cells (vE 0 0 0 false 0 0 0 0 0 0 0) 122)) (w.heap.size+1) 122 (vE 0 0 0 false 0 0 0 0 0 0 0)).alloc _;have O0:=κ (δ ((w.alloc (.cells (vE id a s x p q n t lf st ep) 157)).alloc (.cells (vE 0 0 0 false 0 0 0 0 0 0 0) 122)) 60 (vO a s x p q n t) (w.heap.size+2))
 go_enter Tryz.func63,Tryz.ntmps63
 go_upto_region 2 with fail
 generalize (((w.alloc (.cells (vE id a s x p q n t lf st ep) 157)).alloc (.cells (vE 0 0 0 false 0 0 0 0 0 0 0) 122)).alloc (.cells (vO a s x p q n t) 60))=w1 at b0 K0 R0 O0 ⊢;have hge:Hid (w.heap.size≤w.heap.size+1):=by show _≤_;omega
 generalize w.heap.size+2=gO at O0 ⊢;generalize w.heap.size+1=gR at R0 hge ⊢;obtain⟨gM,hgM⟩:=ν w.heap.size;have K1:=κ (ζ hgM K0.out);simp only[←hgM];clear hgM K0;obtain⟨k0,k1,k2,k3,k4,k5,k6,k7,k8,k9,k10⟩:=q11_of K1.out;obtain⟨o0,o1,o2,o3,o4,o5,o6⟩:=c7o O0.out;obtain⟨z0,z1,z2,z3,z4,z5,z6,z7,z8,z9,z10,f0,f1,f2,f3,f4,f5,f6,f7,f8,f9,f10⟩:=z11_of R0.out;have f3':Blk (st11 w1 gR (ι id) (ι a) (ι s) (.bool x) (ι p) (ι q) (ι n) (ι t) (ι lf) (ι st) (ι ep)) gR 122 (vE id a s x p q n t lf st ep):=st11_blk R0.out;have hfin:Below w.heap.size w (st11 w1 gR (ι id) (ι a) (ι s) (.bool x) (ι p) (ι q) (ι n) (ι t) (ι lf) (ι st) (ι ep)):=st11_below b0.out hge.out
 go_wp2_with fail
 obtain⟨d0,d1,d2,d3,d4,d5,d6,d7,d8,d9,d10⟩:=q11_of f3';clear f3' R0;unfold st11 at d0 d1 d2 d3 d4 d5 d6 d7 d8 d9 d10 hfin;exact bodyPost_ret (v:= .agg #[ι id,ι a,ι s,.bool x,ι p,ι q,ι n,ι t,ι lf,ι st,ι ep]) (by simp[results,Tryz.results63,go_sem,d0,d1,d2,d3,d4,d5,d6,d7,d8,d9,d10]) rfl ⟨rfl,hfin⟩
theorem infoI:(Tryz.prog.info? 2).map (fun i=>(i.zero,i.size,i.bytes))=some (some (.int .i64 0),1,8):=by kernel_rfl
theorem bkne{w:World}{a b:Nat}{ta tb:TypeId}{ca cb:Array Value}(h:Blk w a ta ca)(k:Blk w b tb cb)(ht:ta≠tb):a≠b:=by
 intro e;subst e;unfold Blk at h k;rw[h]at k;injection k with k
 injection k with _ k2 _
 exact ht k2
def OwQ(base:Nat)(w:World)(x:Rc):Prop:=w.ownsRow base 2 1 (.slice x.A x.r.ns.length x.c) x.r.ns.length (ints x.r.ns)
structure Fi(w0:World)(base:Nat)(w:World)(gB gZ gO:Nat)(bv:Array Value)(sh ca:Int)(Ar Ao:Option Addr)(n cr m co:Nat)(rl:List Rc)(es:List En):Prop where
 kB:Blk w gB 75 bv
 kZ:Blk w gZ 110 #[.int .i64 0,.int .i64 0,.slice none 0 0,.slice none 0 0]
 kO:Blk w gO 110 #[.int .i64 sh,.int .i64 ca,.slice Ar n cr,.slice Ao m co]
 zo:gZ≠gO
 bo:base≤gO
 r:w.ownsRow base 153 3 (.slice Ar n cr) n (rcs rl)
 o:w.ownsRow base 122 11 (.slice Ao m co) m (ens es)
 own: ∀k,k<rl.length→OwQ base w (gC rl k)
 b:Below base w0 w
section
variable {w0 w w':World} {base gB gZ gO:Nat} {bv:Array Value} {sh ca:Int} {Ar Ao:Option Addr} {n cr m co:Nat} {rl:List Rc} {es:List En}
theorem Fi.below(h:Fi w0 base w gB gZ gO bv sh ca Ar Ao n cr m co rl es)(hb:Below w.heap.size w w'):Fi w0 base w' gB gZ gO bv sh ca Ar Ao n cr m co rl es:=
 ⟨Blk.below' h.kB hb,Blk.below' h.kZ hb,Blk.below' h.kO hb,h.zo,h.bo,own_below h.r hb,own_below h.o hb,fun k hk=>own_below (h.own k hk) hb,⟨hb.os.trans h.b.os,hb.tape.trans h.b.tape,hb.output.trans h.b.output,Nat.le_trans h.b.size hb.size,fun i hi=>(hb.block i (by have:=h.bo;have:=h.kO.lt;omega)).trans (h.b.block i hi)⟩⟩
theorem Fi.row(h:Fi w0 base w gB gZ gO bv sh ca Ar Ao n cr m co rl es){x:Rc}{A6:Option Addr}{n6 c6:Nat}(hx:OwQ base w x)(ho:w'.ownsRow base 153 3 (.slice A6 n6 c6) n6 (rcs rl++rcV x))(hg:w.grownBy w' (Value.slice Ar n cr).ownBlock)(hs:base≤w.heap.size):
  Fi w0 base (w'.setCell ⟨gO,2,none⟩ (.slice A6 n6 c6)) gB gZ gO bv sh ca A6 Ao n6 c6 m co (rl++[x]) es:=by
 have kO:=blk_own_grown h.kO h.r (by decide) hg;have kB:=blk_own_grown h.kB h.r (by decide) hg;have kZ:=blk_own_grown h.kZ h.r (by decide) hg;have hB:=grown_below h.b h.r hg τ hs;refine⟨far_st kB (bkne kB kO (by decide)) _,far_st kZ h.zo _,blk_st kO 2 _,h.zo,h.bo,?_,Bko.own_st (own_grown h.o h.r (by decide) hg) kO (by decide) 2 _,?_,hB.setCell (p:=(α gO 2)) h.bo _⟩
 ·rw[show rcs (rl++[x])=rcs rl++rcV x from by simp[rcs]];exact Bko.own_st ho kO (by decide) 2 _
 ·intro k hk
  have e:OwQ base w (gC (rl++[x]) k):=by
   by_cases hk2:k<rl.length
   ·have e2:gC (rl++[x]) k=gC rl k:=by simp[gC,List.getD,List.getElem?_append_left hk2]
    rw[e2];exact h.own k hk2
   ·have e2:gC (rl++[x]) k=x:=by
     have h3:k=rl.length:=by simp at hk;omega
     subst h3;simp[gC]
    rw[e2];exact hx
  exact Bko.own_st (own_grown e h.r (by decide) hg) kO (by decide) 2 _
theorem Fi.op(h:Fi w0 base w gB gZ gO bv sh ca Ar Ao n cr m co rl es){e:En}{A6:Option Addr}{n6 c6:Nat}(ho:w'.ownsRow base 122 11 (.slice A6 n6 c6) n6 (ens es++enV e))(hg:w.grownBy w' (Value.slice Ao m co).ownBlock)(hs:base≤w.heap.size):
  Fi w0 base (w'.setCell ⟨gO,3,none⟩ (.slice A6 n6 c6)) gB gZ gO bv sh ca Ar A6 n cr n6 c6 rl (es++[e]):=by
 have kO:=blk_own_grown h.kO h.o (by decide) hg;have kB:=blk_own_grown h.kB h.o (by decide) hg;have kZ:=blk_own_grown h.kZ h.o (by decide) hg;have hB:=grown_below h.b h.o hg τ hs;refine⟨far_st kB (bkne kB kO (by decide)) _,far_st kZ h.zo _,blk_st kO 3 _,h.zo,h.bo,Bko.own_st (own_grown h.r h.o (by decide) hg) kO (by decide) 3 _,?_,fun k hk=>Bko.own_st (own_grown (h.own k hk) h.o (by decide) hg) kO (by decide) 3 _,hB.setCell (p:=(α gO 3)) h.bo _⟩;rw[ens_snoc];exact Bko.own_st ho kO (by decide) 3 _
end
theorem from7_any(sh ca:Int)(A C:Option Addr)(nr no c d:Nat)(rl:List Rc)(bk:Bk)(w:World)(hsh:Hid (sh=bk.sh∧ca=bk.ca))(hnr:Hid (nr=bk.rows.length))(hno:Hid (no=bk.op.length))(hm:Hid (Bm w A C rl bk))(m1:nr≤1000)(m2:no≤1000)(m3:Hid (∀i,i<nr→(gR bk.rows i).ns.length≤1000)):
  Calls Tryz.prog 32 #[.agg #[.int .i64 sh,.int .i64 ca,.slice A nr c,.slice C no d]] w (MadeBk bk w):=by
 obtain⟨i1,hi1,hy0,hy1,hy2⟩:=info_parts Rbc.infoRR;obtain⟨i2,hi2,hz0,hz1,hz2⟩:=info_parts Rbc.infoRE;obtain⟨i3,hi3,hx0,hx1,hx2⟩:=info_parts infoI;have HRL:Hid (rl.length=nr):=by show _=_;rw[hnr.out];exact hm.out.len
 have F0:Hid (Fi w w.heap.size (((w.alloc (.cells (vB sh ca A nr c C no d) 75)).alloc (.cells (vB 0 0 none 0 0 none 0 0) 110)).alloc (.cells (vB sh ca none 0 0 none 0 0) 110)) w.heap.size (w.heap.size+1) (w.heap.size+2) (vB sh ca A nr c C no d) sh ca none none 0 0 0 0 [] []):=
  ⟨((Blk.fresh w _ _).alloc _).alloc _,(blk_hd (by simp):Blk ((w.alloc (.cells #[.int .i64 sh,.int .i64 ca,.slice A nr c,.slice C no d] 75)).alloc (.cells #[.int .i64 0,.int .i64 0,.slice none 0 0,.slice none 0 0] 110)) (w.heap.size+1) 110 #[.int .i64 0,.int .i64 0,.slice none 0 0,.slice none 0 0]).alloc _,blk_hd (by simp),by omega,by omega,World.ownsRow_nil _ _ _ _,World.ownsRow_nil _ _ _ _,fun k hk=>absurd hk (Nat.not_lt_zero _),((ψ.alloc τ _).alloc (by simp) _).alloc (by simp;omega) _⟩
 go_enter Tryz.func32,Tryz.ntmps32
 go_upto_region 2 with fail
 generalize (((w.alloc (.cells (vB sh ca A nr c C no d) 75)).alloc (.cells (vB 0 0 none 0 0 none 0 0) 110)).alloc (.cells (vB sh ca none 0 0 none 0 0) 110))=w0 at F0 ⊢;obtain⟨gB,hgB⟩:=ν w.heap.size;obtain⟨gZ,hgZ⟩:=ν (w.heap.size+1);obtain⟨gO,hgO⟩:=ν (w.heap.size+2);have F1:Hid (Fi w w.heap.size w0 gB gZ gO (vB sh ca A nr c C no d) sh ca none none 0 0 0 0 [] []):=by rw[hgB,hgZ,hgO];exact F0.out
 have hgz:Hid (w.heap.size≤gZ):=by show _≤_;omega
 simp only[←hgO];simp only[←hgZ];simp only[←hgB];clear hgB hgZ hgO F0
 go_wp2_with fail
 go_loopg [4] nr (fun g s4 w'=> ∃(i:Nat) (Ar:Option Addr) (cr:Nat) (rl':List Rc),i+g=nr∧s4= ι i∧Hid (rl'.length=i∧rl'.map Rc.r=bk.rows.take i)∧Hid (Fi w w.heap.size w' gB gZ gO (vB sh ca A nr c C no d) sh ca Ar none i cr 0 0 rl' []))
 case atStart=>exact⟨0,none,0,[],by omega,rfl,⟨rfl,rfl⟩,F1⟩
 case round=>
  clear F1;obtain⟨i,Ar,cr,rl',hk,rfl,HL,F1⟩:=hrel;obtain⟨k0,k1,k2,k3⟩:=q4_of F1.out.kB;by_cases hlt:i<nr
  ·obtain⟨g,rfl⟩: ∃g,gk=g+1:=⟨gk-1,by omega⟩;have t0:decide ((i:Int)<(nr:Int))=true:=by simp;omega
   have hil:i<rl.length:=by rw[HRL.out];exact hlt
   obtain⟨b1,o1,hA1,hb1,hc1⟩:=Rcs.at hm.out.r (by omega);have f1:=hc1 i hil;have r1:=gC_row hm.out.e hil;have N1:Hid (∀W,Below w.heap.size w W→Ris W W.heap.size (gC rl i).A (gC rl i).r.ns):=fun W hb=>Rd.below' (hm.out.n i hil) hb hb.size
   have hnl:=κ (m3.out i hlt)
   have hrow:Hid (bk.rows.take (i+1)=bk.rows.take i++[gR bk.rows i]):=by
    have hb2:i<bk.rows.length:=by rw[←hnr.out];exact hlt
    show _=_;rw[List.take_add_one,List.getElem?_eq_getElem hb2];simp[gR,hb2]
   rw[r1]at f1 N1;obtain⟨An,hAn⟩:=ν ((gC rl i).A);obtain⟨cn,hcn⟩:=ν ((gC rl i).c);rw[←hAn]at N1;rw[←hAn,←hcn]at f1;clear hAn hcn hc1 r1;generalize gR bk.rows i=Rw at f1 N1 hnl hrow;obtain⟨ns,sec,cnt⟩:=Rw;obtain⟨nn,hnn⟩:=ν ns.length;simp only[←hnn]at f1 hnl;have HNN:=κ hnn;clear hnn;have HNL:=hnl.out;clear hnl;simp only at N1;obtain⟨c0,c1,c2⟩:=f1;subst hA1
   have HQ:Hid (∀W,Below w.heap.size w W→Blk W gB 75 (vB sh ca (some (α b1 o1)) nr c C no d)→Blk W gO 110 (vB sh ca Ar i cr none 0 0)→W.cell? (α gO 2)=some (.slice Ar i cr)∧W.cell? (α gB 2)=some (.slice (some (α b1 o1)) nr c)∧W.cell? (α b1 (o1+i*3))=some (.slice An nn cn)∧W.cell? (α b1 (o1+i*3+1))=some (ι sec)∧W.cell? (α b1 (o1+i*3+2))=some (ι cnt)):=by
    intro W hb h1 h2;have q: ∀(o:Nat) (v:Value),w.cell? (α b1 o)=some v→W.cell? (α b1 o)=some v:=fun o v hc=>by rw[World.cell?_of_block (hb.block b1 hb1)];exact hc
    exact⟨h2.cell 2,h1.cell 2,q _ _ c0,q _ _ c1,q _ _ c2⟩
   have hge:=κ F1.out.b.size;clear c0 c1 c2
   go_upto_region 5 with fail
   clear k0 k1 k2 k3 t0;have Fd:=κ (F1.out.below (Below.drew ψ));let T69:World→Prop:=fun w'=>w'.cell? (α gO 2)=some (.slice Ar i cr)∧w'.cell? (α gB 2)=some (.slice (some (α b1 o1)) nr c)∧w'.cell? (α b1 (o1+i*3))=some (.slice An nn cn)∧w'.cell? (α b1 (o1+i*3+1))=some (ι sec)∧w'.cell? (α b1 (o1+i*3+2))=some (ι cnt)
   have HT:Hid (T69 (wr.drew)):=HQ.out _ Fd.out.b Fd.out.kB Fd.out.kO;refine Ω T69 [26] ?_;refine jA 0 HT.out ?_;refine jB 1 HT.out ?_;refine jA 3 HT.out ?_;refine jB 4 HT.out ?_;refine jA 5 HT.out ?_;refine jA 6 HT.out ?_;refine jA 7 HT.out ?_;refine jB 8 HT.out ?_;refine jA 10 HT.out ?_;refine jB 11 HT.out ?_;refine jA 12 HT.out ?_;refine jA 13 HT.out ?_;refine jA 14 HT.out ?_;refine jB 15 HT.out ?_;refine jA 16 HT.out ?_;refine jB 17 HT.out ?_;refine jA 18 HT.out ?_;refine jA 19 HT.out ?_;refine jA 20 HT.out ?_;refine jB 21 HT.out ?_;have U2:Below wr.heap.size wr (wr.drew.alloc (.cells #[] 2)):=(Below.drew ψ).alloc τ _;have F2:=κ (F1.out.below U2);have OR2:Hid (World.ownsRow (wr.drew.alloc (.cells #[] 2)) wr.heap.size 2 1 (.slice (some (α wr.heap.size 0)) 0 0) 0 []):=own_empty (blk_hd (by simp)) τ;have HT2:Hid (T69 (wr.drew.alloc (.cells #[] 2))):=HQ.out _ F2.out.b F2.out.kB F2.out.kO;have UB2:=κ U2;have Q2:Hid (Rd (wr.drew.alloc (.cells #[] 2)) (wr.drew.alloc (.cells #[] 2)).heap.size An (ints ns)):=N1.out _ F2.out.b;have HLn:Hid ((ints ns).length=nn*1):=by show _=_;rw[ints_len,HNN.out,Nat.mul_one]
   have sz2:=U2.size;clear U2;refine jN 2 fun K' hK=>?_
   go_simp;refine hK.out _ _ HT2.out ?_;clear hK K';refine jP ?_;refine jN 9 fun K' hK=>?_
   refine step_appG (nm:=nn) OR2 Q2 (by simp) rfl _ _ _ rfl i3 (ι 0) 8 Tryz.underlying78 hi3 hx0 hx1 hx2 rfl (by decide) rfl rfl HLn.out (ints_one ns) (by unfold maxLen;omega) (by omega) sz2 ?_;intro X5 y5 w5 O5 hg5;have U5:=grown_below UB2.out OR2.out hg5 τ sz2;have F5:=κ (F1.out.below U5);have HT5:Hid (T69 w5):=HQ.out _ F5.out.b F5.out.kB F5.out.kO
   have OX5:Hid (OwQ w.heap.size w5 ⟨X5,y5,⟨ns,sec,cnt⟩⟩):=by
    show w5.ownsRow w.heap.size 2 1 (.slice X5 ns.length y5) ns.length (ints ns);rw[←HNN.out];exact own_mono (by simpa using O5.out) hge.out
   have U6:=β w5 (.cells (vR X5 nn y5 sec cnt) 153);have F6:=κ (F5.out.below U6);have HT6:Hid (T69 (w5.alloc (.cells (vR X5 nn y5 sec cnt) 153))):=HQ.out _ F6.out.b F6.out.kB F6.out.kO;have OX6:Hid (OwQ w.heap.size (w5.alloc (.cells (vR X5 nn y5 sec cnt) 153)) ⟨X5,y5,⟨ns,sec,cnt⟩⟩):=own_below OX5.out U6;have R6:Hid (Rd (w5.alloc (.cells (vR X5 nn y5 sec cnt) 153)) (w5.alloc (.cells (vR X5 nn y5 sec cnt) 153)).heap.size (some (α w5.heap.size 0)) [.slice X5 nn y5,ι sec,ι cnt]):=rd_new rfl;have O6:=κ F6.out.r;have sz6:=F6.out.b.size;clear U5 U6 hg5 O5 OX5 F5;refine hK.out _ _ HT5.out ?_;clear hK K';refine jP ?_;refine jA 22 HT5.out ?_;refine jN 23 fun K' hK=>?_
   go_simp;refine hK.out _ _ HT6.out ?_;clear hK K';refine jP ?_;refine jN 24 fun K' hK=>?_
   refine step_appG (nm:=i+1) O6 R6 rfl rfl _ _ _ rfl i1 (.agg #[.slice none 0 0,ι 0,ι 0]) 40 Tryz.underlying107 hi1 hy0 hy1 hy2 rfl (by decide) rfl rfl rfl (by simp[Value.oneCell']) (by unfold maxLen;omega) (by omega) sz6 ?_;intro A7 c7 w7 O7 hg7;have K7:=κ (blk_own_grown F6.out.kO O6.out (by decide) hg7);have KB7:=blk_own_grown F6.out.kB O6.out (by decide) hg7;have HT7:Hid (T69 w7):=HQ.out _ (grown_below F6.out.b O6.out hg7 τ sz6) KB7 K7.out
   have F8:Hid (Fi w w.heap.size (w7.setCell (α gO 2) (.slice A7 (i+1) c7)) gB gZ gO (vB sh ca (some (α b1 o1)) nr c C no d) sh ca A7 none (i+1) c7 0 0 (rl'++[⟨X5,y5,⟨ns,sec,cnt⟩⟩]) []):=
    F6.out.row OX6.out (by show World.ownsRow _ _ _ _ _ _ (rcs rl'++[.slice X5 ns.length y5,.int .i64 sec,.int .i64 cnt]);rw[←HNN.out];exact O7.out) hg7 sz6
   have HL8:Hid ((rl'++[(⟨X5,y5,⟨ns,sec,cnt⟩⟩:Rc)]).length=i+1∧(rl'++[(⟨X5,y5,⟨ns,sec,cnt⟩⟩:Rc)]).map Rc.r=bk.rows.take (i+1)):=by
    refine⟨by simp[HL.out.1],?_⟩;rw[List.map_append,HL.out.2,hrow.out];rfl
   have x7:=K7.out.cell 2;have y7:=K7.out.thaw 2;simp only[List.getElem?_toArray,List.getElem?_cons_succ,List.getElem?_cons_zero]at x7;refine hK.out _ _ HT7.out ?_;clear hK K' hg7 O7;refine jP ?_;refine jA 25 HT7.out ?_;refine jV 26 fun K' hK=>?_
   go_simp;refine hK.out _ _ ?_;clear hK K';refine jP ?_;refine Δ ?_
   go_wp2_with fail
   go_roundg g
   case measure=>omega
   case rel=>exact⟨i+1,A7,c7,_,by omega,by go_num,HL8,F8⟩
  ·have t0:decide ((i:Int)<(nr:Int))=false:=by simp;omega
   have hin:i=nr:=by omega
   subst hin
   go_wp2_with fail
   clear k0 k1 k2 k3 t0
   go_loopg [5] no (fun g s5 w'=> ∃(j:Nat) (Ao:Option Addr) (co:Nat),j+g=no∧s5= ι j∧Hid (Fi w w.heap.size w' gB gZ gO (vB sh ca A i c C no d) sh ca Ar Ao i cr j co rl' (bk.op.take j)))
   case atStart=>exact⟨0,none,0,by omega,rfl,F1⟩
   case round=>
    clear F1;obtain⟨j,Ao,co,hk2,rfl,F1⟩:=hrel;obtain⟨k0,k1,k2,k3⟩:=q4_of F1.out.kB;by_cases hlt2:j<no
    ·obtain⟨g,rfl⟩: ∃g,gk=g+1:=⟨gk-1,by omega⟩;have t0:decide ((j:Int)<(no:Int))=true:=by simp;omega
     have hjl:j<bk.op.length:=by rw[←hno.out];exact hlt2
     obtain⟨b1,o1,hA1,hb1,hc1⟩:=Ens.at hm.out.o (by omega);have f1:=hc1 j hjl
     have hop:Hid (bk.op.take (j+1)=bk.op.take j++[gE bk.op j]):=by
      show _=_;rw[List.take_add_one,List.getElem?_eq_getElem hjl];simp[gE,hjl]
     clear hc1 hjl;generalize gE bk.op j=E at f1 hop;obtain⟨id,⟨a,s,x,p,q,n,t⟩,lf,st,ep⟩:=E;obtain⟨c0,c1,c2,c3,c4,c5,c6,c7,c8,c9,c10⟩:=f1;simp only[]at c0 c1 c2 c3 c4 c5 c6 c7 c8 c9 c10;subst hA1
     have HQ:Hid (∀W,Below w.heap.size w W→Blk W gB 75 (vB sh ca A i c (some (α b1 o1)) no d)→Blk W gO 110 (vB sh ca Ar i cr Ao j co)→W.cell? (α gO 3)=some (.slice Ao j co)∧W.cell? (α gB 3)=some (.slice (some (α b1 o1)) no d)∧W.cell? (α b1 (o1+j*11))=some (ι id)∧W.cell? (α b1 (o1+j*11+1))=some (ι a)∧W.cell? (α b1 (o1+j*11+2))=some (ι s)∧W.cell? (α b1 (o1+j*11+3))=some (.bool x)∧W.cell? (α b1 (o1+j*11+4))=some (ι p)∧W.cell? (α b1 (o1+j*11+5))=some (ι q)∧W.cell? (α b1 (o1+j*11+6))=some (ι n)∧W.cell? (α b1 (o1+j*11+7))=some (ι t)∧W.cell? (α b1 (o1+j*11+8))=some (ι lf)∧W.cell? (α b1 (o1+j*11+9))=some (ι st)∧W.cell? (α b1 (o1+j*11+10))=some (ι ep)):=by
      intro W hb h1 h2;have q: ∀(o:Nat) (v:Value),w.cell? (α b1 o)=some v→W.cell? (α b1 o)=some v:=fun o v hc=>by rw[World.cell?_of_block (hb.block b1 hb1)];exact hc
      exact⟨h2.cell 3,h1.cell 3,q _ _ c0,q _ _ c1,q _ _ c2,q _ _ c3,q _ _ c4,q _ _ c5,q _ _ c6,q _ _ c7,q _ _ c8,q _ _ c9,q _ _ c10⟩
     clear c0 c1 c2 c3 c4 c5 c6 c7 c8 c9 c10
     go_upto_region 9 with fail
     clear k0 k1 k2 k3 t0;have Fd:=κ (F1.out.below (Below.drew ψ));let T197:World→Prop:=fun w'=>w'.cell? (α gO 3)=some (.slice Ao j co)∧w'.cell? (α gB 3)=some (.slice (some (α b1 o1)) no d)∧w'.cell? (α b1 (o1+j*11))=some (ι id)∧w'.cell? (α b1 (o1+j*11+1))=some (ι a)∧w'.cell? (α b1 (o1+j*11+2))=some (ι s)∧w'.cell? (α b1 (o1+j*11+3))=some (.bool x)∧w'.cell? (α b1 (o1+j*11+4))=some (ι p)∧w'.cell? (α b1 (o1+j*11+5))=some (ι q)∧w'.cell? (α b1 (o1+j*11+6))=some (ι n)∧w'.cell? (α b1 (o1+j*11+7))=some (ι t)∧w'.cell? (α b1 (o1+j*11+8))=some (ι lf)∧w'.cell? (α b1 (o1+j*11+9))=some (ι st)∧w'.cell? (α b1 (o1+j*11+10))=some (ι ep)
     have HT:Hid (T197 (wr.drew)):=HQ.out _ Fd.out.b Fd.out.kB Fd.out.kO;refine Ω T197 [11] ?_;refine jA 0 HT.out ?_;refine jB 1 HT.out ?_;refine jA 2 HT.out ?_;refine jB 3 HT.out ?_;refine jA 4 HT.out ?_;refine jA 5 HT.out ?_;refine jB 6 HT.out ?_;refine jN 7 fun K' hK=>?_
     go_simp;refine(entry_any ⟨id,⟨a,s,x,p,q,n,t⟩,lf,st,ep⟩ _).mono ?_;rintro e w5 ⟨rfl,hb5⟩;unfold enA;have F5:=κ (Fd.out.below hb5);have HT5:Hid (T197 w5):=HQ.out _ F5.out.b F5.out.kB F5.out.kO;have U6:=β w5 (.cells (vE id a s x p q n t lf st ep) 122);have F6:=κ (F5.out.below U6);have HT6:Hid (T197 (w5.alloc (.cells (vE id a s x p q n t lf st ep) 122))):=HQ.out _ F6.out.b F6.out.kB F6.out.kO;have R6:Hid (Rd (w5.alloc (.cells (vE id a s x p q n t lf st ep) 122)) (w5.alloc (.cells (vE id a s x p q n t lf st ep) 122)).heap.size (some (α w5.heap.size 0)) [ι id,ι a,ι s,.bool x,ι p,ι q,ι n,ι t,ι lf,ι st,ι ep]):=rd_new rfl;have O6:=κ F6.out.o;have sz6:=F6.out.b.size;clear U6 hb5 F5
     go_wp2_with fail
     refine hK.out _ _ HT5.out ?_;clear hK K';refine jP ?_;refine jN 8 fun K' hK=>?_
     go_simp;refine hK.out _ _ HT6.out ?_;clear hK K';refine jP ?_;refine jN 9 fun K' hK=>?_
     refine step_appG (nm:=j+1) O6 R6 rfl rfl _ _ _ rfl i2 (.agg #[ι 0,ι 0,ι 0,.bool false,ι 0,ι 0,ι 0,ι 0,ι 0,ι 0,ι 0]) 88 Tryz.underlying108 hi2 hz0 hz1 hz2 rfl (by decide) rfl rfl rfl (by simp[Value.oneCell']) (by unfold maxLen;omega) (by omega) sz6 ?_;intro A7 c7 w7 O7 hg7;have K7:=κ (blk_own_grown F6.out.kO O6.out (by decide) hg7);have KB7:=blk_own_grown F6.out.kB O6.out (by decide) hg7;have HT7:Hid (T197 w7):=HQ.out _ (grown_below F6.out.b O6.out hg7 τ sz6) KB7 K7.out
     have F8:Hid (Fi w w.heap.size (w7.setCell (α gO 3) (.slice A7 (j+1) c7)) gB gZ gO (vB sh ca A i c (some (α b1 o1)) no d) sh ca Ar A7 i cr (j+1) c7 rl' (bk.op.take (j+1))):=by
      rw[hop.out];exact F6.out.op O7.out hg7 sz6
     have x7:=K7.out.cell 3;have y7:=K7.out.thaw 3;simp only[List.getElem?_toArray,List.getElem?_cons_succ,List.getElem?_cons_zero]at x7;refine hK.out _ _ HT7.out ?_;clear hK K' hg7 O7;refine jP ?_;refine jA 10 HT7.out ?_;refine jV 11 fun K' hK=>?_
     go_simp;refine hK.out _ _ ?_;clear hK K';refine jP ?_;refine Δ ?_
     go_wp2_with fail
     go_roundg g
     case measure=>omega
     case rel=>exact⟨j+1,A7,c7,by omega,by go_num,F8⟩
    ·have t0:decide ((j:Int)<(no:Int))=false:=by simp;omega
     have hjn:j=no:=by omega
     subst hjn;have htk:Hid (bk.op.take j=bk.op):=by show _=_;rw[hno.out];exact List.take_length
     have htr:Hid (rl'.map Rc.r=bk.rows):=by have h:=HL.out.2;rw[hnr.out,List.take_length]at h;exact h
     obtain⟨y0,y1,y2,y3⟩:=q4_of F1.out.kO;obtain⟨z0,z1,z2,z3,f0,f1,f2,f3⟩:=z4_of F1.out.kZ;have F3:Blk (st4 wr gZ (ι sh) (ι ca) (.slice Ar i cr) (.slice Ao j co)) gZ 110 (vB sh ca Ar i cr Ao j co):=st4_blk F1.out.kZ;have hB9:Below w.heap.size w (st4 wr gZ (ι sh) (ι ca) (.slice Ar i cr) (.slice Ao j co)):=st4_below F1.out.b hgz.out;have hr9:=own_st4 F1.out.r F1.out.kZ (by decide) (v0:= ι sh) (v1:= ι ca) (v2:= .slice Ar i cr) (v3:= .slice Ao j co);have ho9:=own_st4 F1.out.o F1.out.kZ (by decide) (v0:= ι sh) (v1:= ι ca) (v2:= .slice Ar i cr) (v3:= .slice Ao j co);have hn9: ∀k,k<rl'.length→OwQ w.heap.size (st4 wr gZ (ι sh) (ι ca) (.slice Ar i cr) (.slice Ao j co)) (gC rl' k):=fun k hk=>own_st4 (F1.out.own k hk) F1.out.kZ (by decide) (v0:= ι sh) (v1:= ι ca) (v2:= .slice Ar i cr) (v3:= .slice Ao j co)
     have hfin:Hid (MadeBk bk w (.returned (.agg (vB sh ca Ar i cr Ao j co))) (st4 wr gZ (ι sh) (ι ca) (.slice Ar i cr) (.slice Ao j co))):=by
      refine⟨Ar,Ao,cr,co,rl',?_,⟨Rd.of_own hr9,htr.out,fun k hk=>Rd.of_own (hn9 k hk),?_⟩,hB9⟩
      ·unfold bkA;rw[←hnr.out,←hno.out,←hsh.out.1,←hsh.out.2]
      ·have h:=Rd.of_own ho9;rw[htk.out]at h;exact h
     clear hr9 ho9 hn9 hB9
     go_wp2_with fail
     obtain⟨e0,e1,e2,e3⟩:=q4_of F3;clear F3;unfold st4 at e0 e1 e2 e3 hfin;exact bodyPost_ret (v:= .agg #[ι sh,ι ca,.slice Ar i cr,.slice Ao j co]) (by simp[results,Tryz.results32,go_sem,e0,e1,e2,e3]) rfl hfin.out
end Lfr
end Go.Proofs.YtfbajlcljfjbkaaGreat
