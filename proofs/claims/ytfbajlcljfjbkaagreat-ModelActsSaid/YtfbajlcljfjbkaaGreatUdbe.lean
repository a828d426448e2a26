/- Texts side by side. -/
import Derived.Test.YtfbajlcljfjbkaaGreatUdai
import Derived.Test.YtfbajlcljfjbkaaGreatUdas
import Derived.Test.YtfbajlcljfjbkaaGreatUdaw
import Derived.Test.YtfbajlcljfjbkaaGreatUdbc
set_option linter.unusedVariables false
set_option linter.unusedSimpArgs false
set_option maxRecDepth 100000
set_option maxHeartbeats 16000000
namespace Go.Proofs.YtfbajlcljfjbkaaGreat
open Kap Go.ChangeShapes Go.WideShapes Go.ChangeAt Go.RowKit Mem Tre Ref3 Law3
namespace Lsa
open Lax Fix3 Cfg Crd CrdB CrdC Rr4 Cfr Bkp Bks Bcl Dlk Stk Apt Bko Bku Bka Bkc Rmp Lat Lax
open Mdp hiding Mm_set Mm_off Mm_ep Mm_cr Mm_book Mm_lt
open Mdv (bookF book_any)
open Mdn (epoch_any hasF)
open Mdx (credit_any)
open Mds (Pm plO)
open Lsm (same7_any)
open Lfr (from7_any)
theorem gX_map{xs ys:List Bx}(h:xs.map Bx.b=ys.map Bx.b)(k:Nat)(hk:k<ys.length):k<xs.length∧(gX xs k).b=(gX ys k).b:=by
 have hl:xs.length=ys.length:=by simpa using congrArg List.length h
 have hx:k<xs.length:=by omega
 refine⟨hx,?_⟩;have e1:(gX xs k).b=(xs.map Bx.b)[k]'(by simpa using hx):=by simp[gX,hx]
 have e2:(gX ys k).b=(ys.map Bx.b)[k]'(by simpa using hk):=by simp[gX,hk]
 rw[e1,e2];simp only[h]
theorem same9_any(base base' gm gr:Nat)(qm qr:Mq)(w:World)(h:Hid (Mm base w gm qm))(h':Hid (Rm base' w gr qr))(hp:Hid (plO qm=plO qr))(hnm:qm.nb≤1000)(hnr:qr.nb≤1000)(hf:Hid (∀k,k<qr.xs.length→FewB (gX qr.xs k).b))(hl:qr.n1≤1000)(hu:qr.n2≤1000):
  Calls Tryz.prog 11 #[.pointer (some ⟨gm,0,none⟩),.pointer (some ⟨gr,0,none⟩)] w (MadeB true w):=by
 have hxs:Hid (qm.xs.map Bx.b=qr.xs.map Bx.b):=congrArg Pm.bs hp.out;have hcl:Hid (qm.cl=qr.cl):=congrArg Pm.cl hp.out;have hcu:Hid (qm.cu=qr.cu):=congrArg Pm.cu hp.out;have hep:Hid (qm.ep=qr.ep):=congrArg Pm.ep hp.out;have hof:Hid (qm.off=qr.off):=congrArg Pm.off hp.out;clear hp;obtain⟨sh,wi,ra,ta,A,B,C,nl,al,sl,c,d,f,nd,ac,sy,Ab,nb,cb,xs,An,Au,n1,n2,d1,d2,cl,cu,ep,off⟩:=qr;simp only at hnr hf hxs hcl hcu hep hof hl hu;have L4:=κ (ξ h'.out.l4);have L5:=κ (ξ h'.out.l5);have L6:=κ (ξ h'.out.l6)
 go_enter Tryz.func11,Tryz.ntmps11
 go_wp2_with fail
 go_loopg [5] nb (fun g5 s5 w'=> ∃k:Nat,k+g5=nb∧s5= ι k∧Hid (Below w.heap.size w w'))
 case atStart=>exact⟨0,by omega,rfl,Below.refl _ _⟩
 case round=>
  obtain⟨k,hk,rfl,hbel⟩:=hrel;have M1:=κ (Mm_below h.out hbel.out);have R1:=κ (Rm_below h'.out hbel.out);have k7:wr.cell? (α gr 7)=some (.slice Ab nb cb):=R1.out.blk.cell 7;by_cases hlt:k<nb
  ·obtain⟨g,rfl⟩: ∃g9,gk=g9+1:=⟨gk-1,by omega⟩;have t0:decide ((k:Int)<(nb:Int))=true:=by simp;omega
   obtain⟨gb,hgb⟩:=own_at R1.out.row (by show 0<nb;omega);simp only at hgb;subst hgb;have hkx:k<xs.length:=by rw[←L4.out];exact hlt
   obtain⟨hkm,hbe⟩:=gX_map hxs.out k hkx;have hF:=hf.out k hkx;have hB2:=ξ (R1.out.bm k hkx)
   have hbF:bookF qm (k:Int)=(gX xs k).b:=by
    unfold bookF;rw[if_pos (by unfold hasF;rw[M1.out.l4];simp;omega)];simpa using hbe
   have BK:=fun W hM=>book_any base gm qm k W hM ⟨by omega,by omega⟩ hnm (fun j hj=>by
    obtain⟨_,e⟩:=gX_map (xs:=xs) (ys:=qm.xs) hxs.out.symm j hj
    rw[←e]
    exact hf.out j (by have h9:qm.xs.length=xs.length:=(by simpa using congrArg List.length hxs.out);omega))
   rw[hbF]at BK;have RM2:=own_room R1.out.row;have c0:=RM2.2.2.2.2.2 (k*4) _ (by have:=bxs_get xs k 0 hkx (by decide);exact this);have c1:=RM2.2.2.2.2.2 (k*4+1) _ (by have:=bxs_get xs k 1 hkx (by decide);exact this);have c2:=RM2.2.2.2.2.2 (k*4+2) _ (by have:=bxs_get xs k 2 hkx (by decide);exact this);have c3:=RM2.2.2.2.2.2 (k*4+3) _ (by have:=bxs_get xs k 3 hkx (by decide);exact this);clear RM2 hbF hbe hkm;generalize gX xs k=X at hF hB2 BK c0 c1 c2 c3;obtain⟨A2,C2,c2',d2',rl2,bk⟩:=X;obtain⟨nr,hnr9⟩:=ν bk.rows.length;obtain⟨no,hno9⟩:=ν bk.op.length;obtain⟨bsh,hbs⟩:=ν bk.sh;obtain⟨bca,hbc⟩:=ν bk.ca;have HNR:=κ hnr9;have HNO:=κ hno9;have HSB:Hid (bsh=bk.sh∧bca=bk.ca):=⟨hbs,hbc⟩;have m1:nr≤1000:=by rw[hnr9];exact hF.rl
   have m2:no≤1000:=by rw[hno9];exact hF.ol
   have m3:=κ (ξ (fun i hi=>hF.nl i (by rw[←hnr9];exact hi)));have HB2:=κ hB2;simp only[←hnr9,←hno9,←hbs,←hbc]at c0 c1 c2 c3;clear hnr9 hno9 hbs hbc hF hB2;simp only at HB2
   have hcell:Hid (∀W,Below wr.heap.size wr W→W.cell? (α gr 7)=some (.slice (some (α gb 0)) nb cb)∧W.cell? (α gb (k*4))=some (ι bsh)∧W.cell? (α gb (k*4+1))=some (ι bca)∧W.cell? (α gb (k*4+2))=some (.slice A2 nr c2')∧W.cell? (α gb (k*4+3))=some (.slice C2 no d2')):=by
    intro W hb;have hg:=World.ownsRow.lt R1.out.row gb rfl;have q: ∀(o:Nat) (v:Value),wr.cell? (α gb o)=some v→W.cell? (α gb o)=some v:=fun o v hc=>by rw[World.cell?_of_block (hb.block gb hg.2)];exact hc
    exact⟨(Rm_below R1.out hb).blk.cell 7,q _ _ c0,q _ _ c1,q _ _ c2,q _ _ c3⟩
   let T73:World→Prop:=fun w'=>w'.cell? (α gr 7)=some (.slice (some (α gb 0)) nb cb)∧w'.cell? (α gb (k*4))=some (ι bsh)∧w'.cell? (α gb (k*4+1))=some (ι bca)∧w'.cell? (α gb (k*4+2))=some (.slice A2 nr c2')∧w'.cell? (α gb (k*4+3))=some (.slice C2 no d2')
   have HT:Hid (T73 (wr.drew)):=hcell.out _ (Below.drew ψ);clear c0 c1 c2 c3
   go_upto_region 4 with fail
   clear k7 t0;refine Ω T73 [] ?_;refine jA 0 HT.out ?_;refine jA 1 HT.out ?_;refine jA 4 HT.out ?_;refine jA 5 HT.out ?_;refine jA 6 HT.out ?_;refine jB 7 HT.out ?_;refine jA 8 HT.out ?_;refine jA 9 HT.out ?_;refine jB 10 HT.out ?_;refine jN 2 fun K' hK=>?_
   go_simp;refine(BK _ (κ (Mm_below M1.out (Below.drew ψ)))).mono ?_;rintro e w4 ⟨A4,C4,c4,d4,rl4,rfl,hbo4,hb4⟩;have B4:=κ (CrdB.below_step (Below.drew ψ) hb4);have HM4:=κ hbo4.bm;have HT4:=κ (hcell.out _ B4.out);clear hbo4 hb4;unfold bkA;rw[←HNR.out,←HNO.out,←HSB.out.1,←HSB.out.2]
   go_wp2_with fail
   refine hK.out _ _ HT4.out ?_;clear hK K';refine jP ?_;refine jN 3 fun K' hK=>?_
   go_simp;refine(from7_any bsh bca A4 C4 nr no c4 d4 rl4 bk _ HSB HNR HNO HM4 m1 m2 m3).mono ?_;rintro e w5 ⟨A5,C5,c5,d5,rl5,rfl,hbm5,hb5⟩;have B5:=κ (CrdB.below_step B4.out hb5);have HM5:=κ hbm5;have HT5:=κ (hcell.out _ B5.out);have HR5:=κ (HB2.out.below B5.out);clear hbm5 hb5;unfold bkA;rw[←HNR.out,←HNO.out,←HSB.out.1,←HSB.out.2]
   go_wp2_with fail
   refine hK.out _ _ HT5.out ?_;clear hK K';refine jP ?_;refine jN 11 fun K' hK=>?_
   go_simp;refine(same7_any bsh bca A5 C5 A2 C2 nr no c5 d5 c2' d2' rl5 rl2 bk _ HNR HNO HM5 HR5 m1 m2 m3).mono ?_;rintro e w6 ⟨rfl,hb6⟩;have B6:=κ (CrdB.below_step B5.out hb6);have HT6:=κ (hcell.out _ B6.out);have HW6:=κ (CrdB.below_step hbel.out B6.out);clear hb6
   go_wp2_with fail
   refine hK.out _ _ HT6.out ?_;clear hK K';refine jP ?_;refine jA 12 HT6.out ?_;refine Δ ?_
   go_wp2_with fail
   go_roundg g
   case measure=>omega
   case rel=>exact⟨k+1,by omega,by go_num,HW6⟩
  ·have t0:decide ((k:Int)<(nb:Int))=false:=by simp;omega
   have hcl2:Hid (cl.length≤1000):=by rw[←L5.out];exact hl
   have hcu2:Hid (cu.length≤1000):=by rw[←L6.out];exact hu
   go_wp2_with fail
   refine(epoch_any base gm qm _ M1).mono ?_;rintro e w4 ⟨rfl,hb4⟩;have B4:=κ hb4;clear hb4 k7 t0;rw[hep.out,hof.out];have CR:=fun W hM=>credit_any base gm qm W hM (by rw[hcl.out];have:=hcl2.out;omega) (by rw[hcu.out];have:=hcu2.out;omega)
   rw[hcl.out,hcu.out]at CR;have hcell:Hid (∀W,Below wr.heap.size wr W→W.cell? (α gr 8)=some (.slice An n1 d1)∧W.cell? (α gr 9)=some (.slice Au n2 d2)∧W.cell? (α gr 10)=some (ι ep)∧W.cell? (α gr 11)=some (.bool off)):=fun W hb=>⟨(Rm_below R1.out hb).blk.cell 8,(Rm_below R1.out hb).blk.cell 9,(Rm_below R1.out hb).blk.cell 10,(Rm_below R1.out hb).blk.cell 11⟩
   have eep:(ep==ep)=true:=by simp
   have eof:(off==off)=true:=by simp
   go_upto_region 7 with fail
   let T148:World→Prop:=fun w'=>w'.cell? (α gr 8)=some (.slice An n1 d1)∧w'.cell? (α gr 9)=some (.slice Au n2 d2)∧w'.cell? (α gr 10)=some (ι ep)∧w'.cell? (α gr 11)=some (.bool off)
   have HT:Hid (T148 (w4.drew)):=hcell.out _ (CrdB.below_step B4.out (Below.drew ψ));refine Ω T148 [] ?_;refine jA 0 HT.out ?_;refine jA 3 HT.out ?_;refine jA 4 HT.out ?_;refine jA 5 HT.out ?_;refine jB 6 HT.out ?_;refine jN 1 fun K' hK=>?_
   go_simp;refine(CR _ (κ (Mm_below M1.out (CrdB.below_step B4.out (Below.drew ψ))))).mono ?_;rintro e w5 ⟨A5,c5,A6,c6,rfl,hn5,hr5,hb5,_,_⟩;have B5:=κ (CrdB.below_step (CrdB.below_step B4.out (Below.drew ψ)) hb5);have N5:=κ hn5;have S5:=κ hr5;have HT5:=κ (hcell.out _ B5.out);clear hn5 hr5 hb5
   go_wp2_with fail
   refine hK.out _ _ HT5.out ?_;clear hK K';refine jP ?_;refine jN 2 fun K' hK=>?_
   go_simp;refine(Fr4.from_any A5 A6 c5 c6 cl cu _ N5 S5 (by have:=hcl2.out;omega) (by have:=hcu2.out;omega)).mono ?_;rintro e w6 ⟨A7,c7,A8,c8,rfl,hn6,hr6,hb6⟩;have B6:=κ (CrdB.below_step B5.out hb6);have N6:=κ hn6;have S6:=κ hr6;have HT6:=κ (hcell.out _ B6.out);have NR6:=κ (ξ ((Rm_below R1.out B6.out).cn));have SR6:=κ (ξ ((Rm_below R1.out B6.out).cr));have SM:=Sm4.same_any A7 A8 An Au c7 c8 d1 d2 cl cu w6 N6 S6 NR6 SR6 (by have:=hcl2.out;omega) (by have:=hcu2.out;omega);clear hn6 hr6 hb6;rw[←L5.out,←L6.out]at SM ⊢
   go_wp2_with fail
   refine hK.out _ _ HT6.out ?_;clear hK K';refine jP ?_;refine jN 7 fun K' hK=>?_
   go_simp;refine SM.mono ?_;rintro e w7 ⟨rfl,hb7⟩;have B7:=κ (CrdB.below_step B6.out hb7);have HT7:=κ (hcell.out _ B7.out);have HW7:=κ (CrdB.below_step hbel.out B7.out);clear hb7
   go_wp2_with fail
   refine hK.out _ _ HT7.out ?_;clear hK K';refine jP ?_;refine jA 8 HT7.out ?_;refine jA 9 HT7.out ?_;refine jA 10 HT7.out ?_;refine jA 11 HT7.out ?_;refine jA 12 HT7.out ?_;refine jB 13 HT7.out ?_;refine jA 14 HT7.out ?_;refine jA 15 HT7.out ?_;refine jA 16 HT7.out ?_;refine jA 17 HT7.out ?_;refine jA 18 HT7.out ?_;refine jA 19 HT7.out ?_;refine jA 20 HT7.out ?_;refine jB 21 HT7.out ?_;refine jA 22 HT7.out ?_;refine jA 23 HT7.out ?_;refine jA 24 HT7.out ?_;refine Δ ?_
   go_wp2_with fail
   go_ret;exact madeB_mk rfl HW7.out
end Lsa
namespace Lxt
theorem outs_any(A A':Option Addr)(n c c':Nat)(l:List (Int×Int))(w:World)(hn:Hid (n=l.length))(h1:Hid (Nds w w.heap.size A l))(h2:Hid (Nds w w.heap.size A' l))(hm:n≤1000000):
  Calls Tryz.prog 16 #[.slice A n c,.slice A' n c'] w (MadeB true w):=by
 have e1:((n:Int) != (n:Int))=false:=by simp
 have e2:((n:Int)==(n:Int))=true:=by simp
 have b0:Below w.heap.size w w:=Below.refl _ _
 go_enter Tryz.func16,Tryz.ntmps16
 go_wp2_with fail
 go_loopg [5] n (fun g s5 w'=> ∃(k nq:Nat),k+g=n∧s5= ι k∧w'=w.drewN nq)
 case atStart=>exact⟨0,0,by omega,rfl,rfl⟩
 case round=>
  obtain⟨k,nq,hk,rfl,rfl⟩:=hrel;by_cases hlt:k<n
  ·obtain⟨g,rfl⟩: ∃g,gk=g+1:=⟨gk-1,by omega⟩;have hkl:k<l.length:=by rw[←hn.out];exact hlt
   obtain⟨b1,o1,hA1,hb1,hc1⟩:=Nds.at h1.out (by omega);obtain⟨b2,o2,hA2,hb2,hc2⟩:=Nds.at h2.out (by omega);obtain⟨d0,d1⟩:=hc1 k hkl;obtain⟨d2,d3⟩:=hc2 k hkl;subst hA1;subst hA2;have t0:decide ((k:Int)<(n:Int))=true:=by simp;omega
   have t1:(nP l k != nP l k)=false:=by simp
   have t2:(nP l k==nP l k)=true:=by simp
   have t3:(nC l k != nC l k)=false:=by simp
   have t4:(nC l k==nC l k)=true:=by simp
   clear hc1 hc2 hkl
   go_wp2_with fail
   go_quiet (fail)
   go_wp2_with fail
   go_roundg g
   case measure=>omega
   case rel=>exact⟨k+1,_,by omega,by go_num,rfl⟩
  ·have t0:decide ((k:Int)<(n:Int))=false:=by simp;omega
   go_wp2_with fail
   go_ret;exact madeB_mk rfl (Below.drewN' b0 _)
end Lxt
end Go.Proofs.YtfbajlcljfjbkaaGreat
