/- Texts side by side. -/
import Derived.Test.YtfbajlcljfjbkaaGreatUnibb
import Derived.Test.YtfbajlcljfjbkaaGreatUdaf
set_option linter.unusedVariables false
set_option linter.unusedSimpArgs false
set_option maxRecDepth 100000
set_option maxHeartbeats 16000000
namespace Go.Proofs.YtfbajlcljfjbkaaGreat
open Kap Abv Go.ChangeShapes Go.WideShapes Go.ChangeAt Go.RowKit Mem Tre Ref3 Law3 CrdB CrdC Rr4 Bkp Bks Bkf Bkg Bcl Dlk Stk Apt Bko Bku Bka Bkc Lat Rba Rbc Rbd
namespace Rbe
open Lax
variable {b:Bk} {k lf st y:Int} {rl:List Rc} {base c d i:Nat} {A:Option Addr} {w:World}
theorem Co_set{go:Nat}(h:Co base w A (some ⟨go,0,none⟩) c d rl b)(j:Nat)(v:Value)(op':List En)(e:(ens b.op).set j v=ens op')(hl:op'.length=b.op.length)
  (hn: ∀i,i<rl.length→Ris (w.setCell ⟨go,j,none⟩ v) (w.setCell ⟨go,j,none⟩ v).heap.size (gC rl i).A (gC rl i).r.ns):Co base (w.setCell ⟨go,j,none⟩ v) A (some ⟨go,0,none⟩) c d rl ⟨b.sh,b.ca,b.rows,op'⟩:=by
 obtain⟨s1,g1⟩:=World.ownsRow.stored h.o j v;refine⟨Apt.own_grown h.r h.o (by decide) g1,?_,h.e,hn⟩;rw[e]at s1;show World.ownsRow _ _ _ _ (.slice _ op'.length _) op'.length _;rw[hl];exact s1
theorem Co_st4{C:Option Addr}{g:Nat}(h:Co base w A C c d rl b){u0 u1 u2 u3:Value}(hk:Blk w g 110 #[u0,u1,u2,u3])(v0 v1 v2 v3:Value)(hn: ∀i,i<rl.length→Ris (st4 w g v0 v1 v2 v3) (st4 w g v0 v1 v2 v3).heap.size (gC rl i).A (gC rl i).r.ns):Co base (st4 w g v0 v1 v2 v3) A C c d rl b:=
 ⟨own_st4 h.r hk (by decide),own_st4 h.o hk (by decide),h.e,hn⟩
theorem can_none(h: ¬posE b.op k<b.op.length):cancelF b k=(b,15):=by unfold cancelF;rw[if_neg h]
theorem can_16(hi:i=posE b.op k)(h:i<b.op.length)(hs:st=(gE b.op i).st)(h2:st=2):cancelF b k=(b,16):=by
 unfold cancelF;rw[←hi,if_pos h,←hs,if_pos h2]
theorem can_ok(hi:i=posE b.op k)(h:i<b.op.length)(hs:st=(gE b.op i).st)(h2: ¬st=2):cancelF b k=(⟨b.sh,b.ca,b.rows,b.op.set i (setS (gE b.op i) 2)⟩,0):=by
 unfold cancelF;rw[←hi,if_pos h,←hs,if_neg h2]
theorem ack_none(h: ¬posE b.op k<b.op.length):ackF b k=(b,15):=by unfold ackF;rw[if_neg h]
theorem ack_16(hi:i=posE b.op k)(h:i<b.op.length)(hs:st=(gE b.op i).st)(h2:st=1):ackF b k=(b,16):=by
 unfold ackF;rw[←hi,if_pos h,←hs,if_pos h2]
theorem ack_ok'(hi:i=posE b.op k)(h:i<b.op.length)(hs:st=(gE b.op i).st)(h2: ¬st=1):ackF b k=(⟨b.sh,b.ca,b.rows,delE b.op i⟩,0):=by
 unfold ackF;rw[←hi,if_pos h,←hs,if_neg h2]
theorem fil_1(h:y<1):fillF b k y=(b,1):=by unfold fillF;rw[if_pos h]
theorem fil_none(h0: ¬y<1)(h: ¬posE b.op k<b.op.length):fillF b k y=(b,15):=by unfold fillF;rw[if_neg h0,if_neg h]
theorem fil_17(h0: ¬y<1)(hi:i=posE b.op k)(h:i<b.op.length)(hs:lf=(gE b.op i).lf)(h2:lf<y):fillF b k y=(b,17):=by
 unfold fillF;rw[if_neg h0,←hi,if_pos h,←hs,if_pos h2]
theorem fil_all(h0: ¬y<1)(hi:i=posE b.op k)(h:i<b.op.length)(hs:lf=(gE b.op i).lf)(h2: ¬lf<y)(h3:y=lf):fillF b k y=(⟨b.sh,b.ca,b.rows,delE b.op i⟩,0):=by
 unfold fillF;rw[if_neg h0,←hi,if_pos h,←hs,if_neg h2,if_pos (by omega)]
theorem fil_part(h0: ¬y<1)(hi:i=posE b.op k)(h:i<b.op.length)(hs:lf=(gE b.op i).lf)(h2: ¬lf<y)(h3: ¬y=lf):fillF b k y=(⟨b.sh,b.ca,b.rows,b.op.set i (setL (gE b.op i) (lf-y))⟩,0):=by
 unfold fillF;rw[if_neg h0,←hi,if_pos h,←hs,if_neg h2,if_neg (by omega)]
theorem rcancel_any(sh ca:Int)(A C:Option Addr)(nr no c d:Nat)(rl:List Rc)(bk:Bk)(k:Int)(w:World)(hsh:Hid (sh=bk.sh∧ca=bk.ca))(hnr:Hid (nr=bk.rows.length))(hno:Hid (no=bk.op.length))(hm:Hid (Bm w A C rl bk))(l1:nr≤1000)(l2:no≤1000)(hd:no≤d):
  Calls Tryz.prog 89 #[.agg #[.int .i64 sh,.int .i64 ca,.slice A nr c,.slice C no d],.int .i64 k] w (MadeRb rl (cancelF bk k).1 (cancelF bk k).2 w):=by
 have b0:=κ (γ w (.cells (vB sh ca A nr c C no d) 110) (.cells (vB 0 0 none 0 0 none 0 0) 110));have K0:=κ ((Blk.fresh w 110 (vB sh ca A nr c C no d)).alloc (.cells (vB 0 0 none 0 0 none 0 0) 110));have R0:=κ (δ (w.alloc (.cells (vB sh ca A nr c C no d) 110)) 110 (vB 0 0 none 0 0 none 0 0) (w.heap.size+1))
 go_enter Tryz.func89,Tryz.ntmps89
 go_upto_region 1 with fail
 obtain⟨gB,hgB⟩:=ν w.heap.size;obtain⟨gZ,hgR⟩:=ν (w.heap.size+1);have K1:=κ (ζ hgB K0.out);have R1:=κ (ζ hgR R0.out);have hge:Hid (w.heap.size≤gZ):=by show _≤_;omega
 simp only[←hgR];simp only[←hgB];clear hgB hgR K0 R0;generalize ((w.alloc (.cells (vB sh ca A nr c C no d) 110)).alloc (.cells (vB 0 0 none 0 0 none 0 0) 110))=w0 at b0 K1 R1 ⊢;have HM0:=κ (hm.out.below b0.out);obtain⟨k0,k1,k2,k3⟩:=q4_of K1.out
 go_wp2_with fail
 refine(at_any sh ca A C nr no c d bk.op k _ hno (κ HM0.out.o) (by omega)).mono ?_;rintro e w1 ⟨rfl,hb1⟩;have HB1:=κ (CrdB.below_step b0.out hb1);have K2:=κ (Blk.below' K1.out hb1);have R2:=κ (Blk.below' R1.out hb1);have HM1:=κ (HM0.out.below hb1);clear k0 k1 k2 k3 hb1;obtain⟨k0,k1,k2,k3⟩:=q4_of K2.out;by_cases hp:posE bk.op k<bk.op.length
 case neg=>
  have hP:=κ (placeF_f hp);rw[hP.out];have F3:Blk (st4 w1 gZ (ι sh) (ι ca) (.slice A nr c) (.slice C no d)) gZ 110 (vB sh ca A nr c C no d):=st4_blk R2.out;have BF:Below w.heap.size w (st4 w1 gZ (ι sh) (ι ca) (.slice A nr c) (.slice C no d)):=st4_below HB1.out hge.out
  have HEQ:cancelF bk k=(bk,15):=by
   exact can_none hp
  have hfin:MadeRb rl bk 15 w (.returned (.tuple #[.agg (vB sh ca A nr c C no d),ι 15])) (st4 w1 gZ (ι sh) (ι ca) (.slice A nr c) (.slice C no d)):=
   ⟨A,C,c,d,rl,by rw[copy_agg hsh.out hnr.out hno.out],hm.out.below BF,fun h=>absurd h (by decide),BF⟩
  have HF:=κ hfin;have HEQ:=κ HEQ;clear hfin BF;obtain⟨z0,z1,z2,z3,g0,g1,g2,g3⟩:=z4_of R2.out
  go_wp2_with fail
  obtain⟨e0,e1,e2,e3⟩:=q4_of F3;clear F3;unfold st4 at e0 e1 e2 e3 HF;exact bodyPost_ret (v:= .tuple #[.agg #[ι sh,ι ca,.slice A nr c,.slice C no d],ι 15]) (by simp[results,Tryz.results89,go_sem,e0,e1,e2,e3]) rfl (by rw[HEQ.out];exact HF.out)
 case pos=>
  have hP:=κ (placeF_t hp);obtain⟨cb,co,hC,hcb,hcc⟩:=Ens.at HM1.out.o (by omega);have hcs:=hcc (posE bk.op k) hp;rw[hP.out];obtain⟨i,hi0⟩:=ν (posE bk.op k);rw[←hi0]at hcs ⊢;rw[←hi0]at hp;have HI:=κ hi0;clear hi0 hP hcc;obtain⟨E,hE⟩:=ν (gE bk.op i);rw[←hE]at hcs;have HE:=κ hE;clear hE;obtain⟨eid,⟨ea,es,ex,eP,eQ,eN,eT⟩,eL,eS,eE⟩:=E;obtain⟨c0,c1,c2,c3,c4,c5,c6,c7,c8,c9,c10⟩:=hcs;simp only[]at c0 c1 c2 c3 c4 c5 c6 c7 c8 c9 c10;have hio:i<no:=by rw[hno.out];exact hp
  have tlt:decide ((i:Int)<(no:Int))=true:=by simp;omega
  have tne:decide ((i:Int)<0)=false:=by simp only[decide_eq_false_iff_not];omega
  have hpl:=hp;have HPL:=κ hpl;subst hC;by_cases h2:eS=2
  ·have t1:(eS==2)=true:=by simp[h2]
   have H2:=κ h2;clear h2;have F3:Blk (st4 w1 gZ (ι sh) (ι ca) (.slice A nr c) (.slice (some (α cb co)) no d)) gZ 110 (vB sh ca A nr c (some (α cb co)) no d):=st4_blk R2.out;have BF:Below w.heap.size w (st4 w1 gZ (ι sh) (ι ca) (.slice A nr c) (.slice (some (α cb co)) no d)):=st4_below HB1.out hge.out
   have HEQ:cancelF bk k=(bk,16):=by
    exact can_16 HI.out HPL.out (congrArg En.st HE.out) H2.out
   have hfin:MadeRb rl bk 16 w (.returned (.tuple #[.agg (vB sh ca A nr c (some (α cb co)) no d),ι 16])) (st4 w1 gZ (ι sh) (ι ca) (.slice A nr c) (.slice (some (α cb co)) no d)):=
    ⟨A,some ⟨cb,co,none⟩,c,d,rl,by rw[copy_agg hsh.out hnr.out hno.out],hm.out.below BF,fun h=>absurd h (by decide),BF⟩
   have HF:=κ hfin;have HEQ:=κ HEQ;clear hfin BF;obtain⟨z0,z1,z2,z3,g0,g1,g2,g3⟩:=z4_of R2.out
   go_wp2_with fail
   obtain⟨e0,e1,e2,e3⟩:=q4_of F3;clear F3;unfold st4 at e0 e1 e2 e3 HF;exact bodyPost_ret (v:= .tuple #[.agg #[ι sh,ι ca,.slice A nr c,.slice (some (α cb co)) no d],ι 16]) (by simp[results,Tryz.results89,go_sem,e0,e1,e2,e3]) rfl (by rw[HEQ.out];exact HF.out)
  ·have t1:(eS==2)=false:=by simp[h2]
   have H2:=κ h2;clear h2
   go_wp2_with fail
   refine(copied_any sh ca A (some (α cb co)) nr no c d rl bk _ hsh hnr hno HM1 l1 l2).mono ?_;rintro e w2 ⟨A',C',c',d',he,hco,hb2⟩;rw[copy_agg hsh.out hnr.out hno.out]at he;subst he;obtain⟨go,hgo⟩:=Bko.own_at hco.o (by rw[←hno.out];omega);subst hgo;have U3:=β w2 (.cells (vB sh ca A' nr c' (some (α go 0)) no d') 110);have V3:=κ (Blk.fresh w2 110 (vB sh ca A' nr c' (some (α go 0)) no d'));have B3:=κ (CrdB.below_step (CrdB.below_step HB1.out hb2) U3);have K3:=κ (Blk.below' (Blk.below' K2.out hb2) U3);have R3:=κ (Blk.below' (Blk.below' R2.out hb2) U3);have O3:=κ (Co_below (Co_mono hco HB1.out.size) U3);have hVZ:Hid (w2.heap.size≠gZ):=by show _≠_;have:=(Blk.below' R2.out hb2).lt;omega
   clear k0 k1 k2 k3 c0 c1 c2 c3 c4 c5 c6 c7 c8 c9 c10 hb2 hco U3 HM1 K2 R2 HB1
   go_upto_region 7 with fail
   generalize w2.alloc (.cells (vB sh ca A' nr c' (some (α go 0)) no d') 110)=w3 at V3 B3 K3 R3 O3 ⊢;generalize w2.heap.size=gV at V3 hVZ ⊢;have RM:=own_room (show World.ownsRow w3 w.heap.size 122 11 (.slice (some (α go 0)) no d') no (ens bk.op) from by have h:=O3.out.o;rw[←hno.out]at h;exact h);have hcd:=RM.2.2.1;have x9:=RM.2.2.2.2.2 (i*11+9) _ (ens_get bk.op i 9 (by rw[←hno.out];exact hio) (by decide));have y9:=(RM.2.2.2.2.1 (i*11+9) (by omega)).2;clear RM;have B4:Hid (Below w.heap.size w (w3.setCell (α go (i*11+9)) (ι 2))):=B3.out.setCell (p:=(α go (i*11+9))) (show w.heap.size≤go from Tre.own_fresh O3.out.o (α go 0) rfl) _;have s4:=World.ownsRow.stored O3.out.o (i*11+9) (ι 2);have V4:=κ (blk_own_grown V3.out O3.out.o (by decide) s4.2);have R4:=κ (blk_own_grown R3.out O3.out.o (by decide) s4.2);have O4:=κ (Co_set O3.out _ _ _ (ens_setS _ _ (by rw[←hno.out];exact hio) _).symm (List.length_set) (fun j hj=>Rd.below' (hm.out.n j hj) B4.out B4.out.size));clear s4;obtain⟨v0,v1,v2,v3,_,_,_,_⟩:=z4_of V3.out
   go_upto_region 8 with fail
   clear v0 v1 v2 v3 x9 y9 V3 B3 R3 O3;generalize (w3.setCell (α go (i*11+9)) (ι 2))=w4 at B4 V4 R4 O4 ⊢;have F3:Blk (st4 w4 gZ (ι sh) (ι ca) (.slice A' nr c') (.slice (some (α go 0)) no d')) gZ 110 (vB sh ca A' nr c' (some (α go 0)) no d'):=st4_blk R4.out;have BF:Below w.heap.size w (st4 w4 gZ (ι sh) (ι ca) (.slice A' nr c') (.slice (some (α go 0)) no d')):=st4_below B4.out hge.out;have OF:=Co_st4 O4.out R4.out _ _ _ _ (fun j hj=>Rd.below' (hm.out.n j hj) BF BF.size)
   have hfin:MadeRb rl ⟨bk.sh,bk.ca,bk.rows,bk.op.set i (setS (gE bk.op i) 2)⟩ 0 w (.returned (.tuple #[.agg (vB sh ca A' nr c' (some (α go 0)) no d'),ι 0])) (st4 w4 gZ (ι sh) (ι ca) (.slice A' nr c') (.slice (some (α go 0)) no d')):=by
    refine⟨A',some (α go 0),c',d',rl,?_,Co_bm OF,fun _=>Co_nw OF,BF⟩;unfold bkA;rw[←hnr.out,←hsh.out.1,←hsh.out.2];simp only[List.length_set,←hno.out]
   have HEQ:cancelF bk k=(⟨bk.sh,bk.ca,bk.rows,bk.op.set i (setS (gE bk.op i) 2)⟩,0):=by
    exact can_ok HI.out HPL.out (congrArg En.st HE.out) H2.out
   have HF:=κ hfin;have HEQ:=κ HEQ;clear hfin BF OF;obtain⟨v0,v1,v2,v3,_,_,_,_⟩:=z4_of V4.out;obtain⟨z0,z1,z2,z3,g0,g1,g2,g3⟩:=z4_of R4.out
   go_wp2_with fail
   obtain⟨e0,e1,e2,e3⟩:=q4_of F3;clear F3;unfold st4 at e0 e1 e2 e3 HF;exact bodyPost_ret (v:= .tuple #[.agg #[ι sh,ι ca,.slice A' nr c',.slice (some (α go 0)) no d'],ι 0]) (by simp[results,Tryz.results89,go_sem,e0,e1,e2,e3]) rfl (by rw[HEQ.out];exact HF.out)
theorem rack_any(sh ca:Int)(A C:Option Addr)(nr no c d:Nat)(rl:List Rc)(bk:Bk)(k:Int)(w:World)(hsh:Hid (sh=bk.sh∧ca=bk.ca))(hnr:Hid (nr=bk.rows.length))(hno:Hid (no=bk.op.length))(hm:Hid (Bm w A C rl bk))(l1:nr≤1000)(l2:no≤1000)(hd:no≤d):
  Calls Tryz.prog 92 #[.agg #[.int .i64 sh,.int .i64 ca,.slice A nr c,.slice C no d],.int .i64 k] w (MadeRb rl (ackF bk k).1 (ackF bk k).2 w):=by
 have b0:=κ (γ w (.cells (vB sh ca A nr c C no d) 110) (.cells (vB 0 0 none 0 0 none 0 0) 110));have K0:=κ ((Blk.fresh w 110 (vB sh ca A nr c C no d)).alloc (.cells (vB 0 0 none 0 0 none 0 0) 110));have R0:=κ (δ (w.alloc (.cells (vB sh ca A nr c C no d) 110)) 110 (vB 0 0 none 0 0 none 0 0) (w.heap.size+1))
 go_enter Tryz.func92,Tryz.ntmps92
 go_upto_region 1 with fail
 obtain⟨gB,hgB⟩:=ν w.heap.size;obtain⟨gZ,hgR⟩:=ν (w.heap.size+1);have K1:=κ (ζ hgB K0.out);have R1:=κ (ζ hgR R0.out);have hge:Hid (w.heap.size≤gZ):=by show _≤_;omega
 simp only[←hgR];simp only[←hgB];clear hgB hgR K0 R0;generalize ((w.alloc (.cells (vB sh ca A nr c C no d) 110)).alloc (.cells (vB 0 0 none 0 0 none 0 0) 110))=w0 at b0 K1 R1 ⊢;have HM0:=κ (hm.out.below b0.out);obtain⟨k0,k1,k2,k3⟩:=q4_of K1.out
 go_wp2_with fail
 refine(at_any sh ca A C nr no c d bk.op k _ hno (κ HM0.out.o) (by omega)).mono ?_;rintro e w1 ⟨rfl,hb1⟩;have HB1:=κ (CrdB.below_step b0.out hb1);have K2:=κ (Blk.below' K1.out hb1);have R2:=κ (Blk.below' R1.out hb1);have HM1:=κ (HM0.out.below hb1);clear k0 k1 k2 k3 hb1;obtain⟨k0,k1,k2,k3⟩:=q4_of K2.out;by_cases hp:posE bk.op k<bk.op.length
 case neg=>
  have hP:=κ (placeF_f hp);rw[hP.out];have F3:Blk (st4 w1 gZ (ι sh) (ι ca) (.slice A nr c) (.slice C no d)) gZ 110 (vB sh ca A nr c C no d):=st4_blk R2.out;have BF:Below w.heap.size w (st4 w1 gZ (ι sh) (ι ca) (.slice A nr c) (.slice C no d)):=st4_below HB1.out hge.out
  have HEQ:ackF bk k=(bk,15):=by
   exact ack_none hp
  have hfin:MadeRb rl bk 15 w (.returned (.tuple #[.agg (vB sh ca A nr c C no d),ι 15])) (st4 w1 gZ (ι sh) (ι ca) (.slice A nr c) (.slice C no d)):=
   ⟨A,C,c,d,rl,by rw[copy_agg hsh.out hnr.out hno.out],hm.out.below BF,fun h=>absurd h (by decide),BF⟩
  have HF:=κ hfin;have HEQ:=κ HEQ;clear hfin BF;obtain⟨z0,z1,z2,z3,g0,g1,g2,g3⟩:=z4_of R2.out
  go_wp2_with fail
  obtain⟨e0,e1,e2,e3⟩:=q4_of F3;clear F3;unfold st4 at e0 e1 e2 e3 HF;exact bodyPost_ret (v:= .tuple #[.agg #[ι sh,ι ca,.slice A nr c,.slice C no d],ι 15]) (by simp[results,Tryz.results92,go_sem,e0,e1,e2,e3]) rfl (by rw[HEQ.out];exact HF.out)
 case pos=>
  have hP:=κ (placeF_t hp);obtain⟨cb,co,hC,hcb,hcc⟩:=Ens.at HM1.out.o (by omega);have hcs:=hcc (posE bk.op k) hp;rw[hP.out];obtain⟨i,hi0⟩:=ν (posE bk.op k);rw[←hi0]at hcs ⊢;rw[←hi0]at hp;have HI:=κ hi0;clear hi0 hP hcc;obtain⟨E,hE⟩:=ν (gE bk.op i);rw[←hE]at hcs;have HE:=κ hE;clear hE;obtain⟨eid,⟨ea,es,ex,eP,eQ,eN,eT⟩,eL,eS,eE⟩:=E;obtain⟨c0,c1,c2,c3,c4,c5,c6,c7,c8,c9,c10⟩:=hcs;simp only[]at c0 c1 c2 c3 c4 c5 c6 c7 c8 c9 c10;have hio:i<no:=by rw[hno.out];exact hp
  have tlt:decide ((i:Int)<(no:Int))=true:=by simp;omega
  have tne:decide ((i:Int)<0)=false:=by simp only[decide_eq_false_iff_not];omega
  have hpl:=hp;have HPL:=κ hpl;subst hC;by_cases h2:eS=1
  ·have t1:(eS==1)=true:=by simp[h2]
   have H2:=κ h2;clear h2;have F3:Blk (st4 w1 gZ (ι sh) (ι ca) (.slice A nr c) (.slice (some (α cb co)) no d)) gZ 110 (vB sh ca A nr c (some (α cb co)) no d):=st4_blk R2.out;have BF:Below w.heap.size w (st4 w1 gZ (ι sh) (ι ca) (.slice A nr c) (.slice (some (α cb co)) no d)):=st4_below HB1.out hge.out
   have HEQ:ackF bk k=(bk,16):=by
    exact ack_16 HI.out HPL.out (congrArg En.st HE.out) H2.out
   have hfin:MadeRb rl bk 16 w (.returned (.tuple #[.agg (vB sh ca A nr c (some (α cb co)) no d),ι 16])) (st4 w1 gZ (ι sh) (ι ca) (.slice A nr c) (.slice (some (α cb co)) no d)):=
    ⟨A,some ⟨cb,co,none⟩,c,d,rl,by rw[copy_agg hsh.out hnr.out hno.out],hm.out.below BF,fun h=>absurd h (by decide),BF⟩
   have HF:=κ hfin;have HEQ:=κ HEQ;clear hfin BF;obtain⟨z0,z1,z2,z3,g0,g1,g2,g3⟩:=z4_of R2.out
   go_wp2_with fail
   obtain⟨e0,e1,e2,e3⟩:=q4_of F3;clear F3;unfold st4 at e0 e1 e2 e3 HF;exact bodyPost_ret (v:= .tuple #[.agg #[ι sh,ι ca,.slice A nr c,.slice (some (α cb co)) no d],ι 16]) (by simp[results,Tryz.results92,go_sem,e0,e1,e2,e3]) rfl (by rw[HEQ.out];exact HF.out)
  ·have t1:(eS==1)=false:=by simp[h2]
   have H2:=κ h2;clear h2;obtain⟨n7,hn7⟩:=ν ((delE bk.op i).length);have HN7:=κ hn7;clear hn7
   go_wp2_with fail
   refine(closed_any sh ca A (some (α cb co)) nr no c d rl bk i _ hsh hnr hno HM1 l1 l2 hd hio).mono ?_;rintro e w2 ⟨A',C',c',d',he,hco,hb2⟩;rw[show bkA A' C' c' d' ⟨bk.sh,bk.ca,bk.rows,delE bk.op i⟩= .agg #[.int .i64 sh,.int .i64 ca,.slice A' nr c',.slice C' n7 d'] from by unfold bkA;rw[hnr.out,hsh.out.1,hsh.out.2,HN7.out]]at he;subst he;have B2:=κ (CrdB.below_step HB1.out hb2);have R3:=κ (Blk.below' R2.out hb2);have O2:=κ (Co_mono hco HB1.out.size);clear hb2 hco k0 k1 k2 k3 c0 c1 c2 c3 c4 c5 c6 c7 c8 c9 c10;have F3:Blk (st4 w2 gZ (ι sh) (ι ca) (.slice A' nr c') (.slice C' n7 d')) gZ 110 (vB sh ca A' nr c' C' n7 d'):=st4_blk R3.out;have BF:Below w.heap.size w (st4 w2 gZ (ι sh) (ι ca) (.slice A' nr c') (.slice C' n7 d')):=st4_below B2.out hge.out;have OF:=Co_st4 O2.out R3.out _ _ _ _ (fun j hj=>Rd.below' (hm.out.n j hj) BF BF.size)
   have hfin:MadeRb rl ⟨bk.sh,bk.ca,bk.rows,delE bk.op i⟩ 0 w (.returned (.tuple #[.agg (vB sh ca A' nr c' C' n7 d'),ι 0])) (st4 w2 gZ (ι sh) (ι ca) (.slice A' nr c') (.slice C' n7 d')):=by
    refine⟨A',C',c',d',rl,?_,Co_bm OF,fun _=>Co_nw OF,BF⟩;unfold bkA;rw[←hnr.out,←hsh.out.1,←hsh.out.2];simp only[←HN7.out]
   have HEQ:=ack_ok' HI.out HPL.out (congrArg En.st HE.out) H2.out;have HF:=κ hfin;have HEQ:=κ HEQ;clear hfin BF OF;obtain⟨z0,z1,z2,z3,g0,g1,g2,g3⟩:=z4_of R3.out
   go_wp2_with fail
   obtain⟨e0,e1,e2,e3⟩:=q4_of F3;clear F3;unfold st4 at e0 e1 e2 e3 HF;exact bodyPost_ret (v:= .tuple #[.agg #[ι sh,ι ca,.slice A' nr c',.slice C' n7 d'],ι 0]) (by simp[results,Tryz.results92,go_sem,e0,e1,e2,e3]) rfl (by rw[HEQ.out];exact HF.out)
theorem rfill_any(sh ca:Int)(A C:Option Addr)(nr no c d:Nat)(rl:List Rc)(bk:Bk)(k y:Int)(w:World)(hsh:Hid (sh=bk.sh∧ca=bk.ca))(hnr:Hid (nr=bk.rows.length))(hno:Hid (no=bk.op.length))(hm:Hid (Bm w A C rl bk))(l1:nr≤1000)(l2:no≤1000)(hd:no≤d)(hlf:Hid (∀i,i<bk.op.length→inI (gE bk.op i).lf))(hy9:y≤9223372036854775807):
  Calls Tryz.prog 90 #[.agg #[.int .i64 sh,.int .i64 ca,.slice A nr c,.slice C no d],.int .i64 k,.int .i64 y] w (MadeRb rl (fillF bk k y).1 (fillF bk k y).2 w):=by
 have b0:=κ (γ w (.cells (vB sh ca A nr c C no d) 110) (.cells (vB 0 0 none 0 0 none 0 0) 110));have K0:=κ ((Blk.fresh w 110 (vB sh ca A nr c C no d)).alloc (.cells (vB 0 0 none 0 0 none 0 0) 110));have R0:=κ (δ (w.alloc (.cells (vB sh ca A nr c C no d) 110)) 110 (vB 0 0 none 0 0 none 0 0) (w.heap.size+1))
 go_enter Tryz.func90,Tryz.ntmps90
 go_upto_region 1 with fail
 obtain⟨gB,hgB⟩:=ν w.heap.size;obtain⟨gZ,hgR⟩:=ν (w.heap.size+1);have K1:=κ (ζ hgB K0.out);have R1:=κ (ζ hgR R0.out);have hge:Hid (w.heap.size≤gZ):=by show _≤_;omega
 simp only[←hgR];simp only[←hgB];clear hgB hgR K0 R0;generalize ((w.alloc (.cells (vB sh ca A nr c C no d) 110)).alloc (.cells (vB 0 0 none 0 0 none 0 0) 110))=w0 at b0 K1 R1 ⊢;have HM0:=κ (hm.out.below b0.out);obtain⟨k0,k1,k2,k3⟩:=q4_of K1.out;by_cases hy:y<1
 case pos=>
  have t0:decide (y<1)=true:=by simp[hy]
  have F3:Blk (st4 w0 gZ (ι sh) (ι ca) (.slice A nr c) (.slice C no d)) gZ 110 (vB sh ca A nr c C no d):=st4_blk R1.out;have BF:Below w.heap.size w (st4 w0 gZ (ι sh) (ι ca) (.slice A nr c) (.slice C no d)):=st4_below b0.out hge.out
  have HEQ:fillF bk k y=(bk,1):=by
   exact fil_1 hy
  have hfin:MadeRb rl bk 1 w (.returned (.tuple #[.agg (vB sh ca A nr c C no d),ι 1])) (st4 w0 gZ (ι sh) (ι ca) (.slice A nr c) (.slice C no d)):=
   ⟨A,C,c,d,rl,by rw[copy_agg hsh.out hnr.out hno.out],hm.out.below BF,fun h=>absurd h (by decide),BF⟩
  have HF:=κ hfin;have HEQ:=κ HEQ;clear hfin BF;obtain⟨z0,z1,z2,z3,g0,g1,g2,g3⟩:=z4_of R1.out
  go_wp2_with fail
  obtain⟨e0,e1,e2,e3⟩:=q4_of F3;clear F3;unfold st4 at e0 e1 e2 e3 HF;exact bodyPost_ret (v:= .tuple #[.agg #[ι sh,ι ca,.slice A nr c,.slice C no d],ι 1]) (by simp[results,Tryz.results90,go_sem,e0,e1,e2,e3]) rfl (by rw[HEQ.out];exact HF.out)
 have ty:decide (y<1)=false:=by simp[hy]
 go_wp2_with fail
 refine(at_any sh ca A C nr no c d bk.op k _ hno (κ HM0.out.o) (by omega)).mono ?_;rintro e w1 ⟨rfl,hb1⟩;have HB1:=κ (CrdB.below_step b0.out hb1);have K2:=κ (Blk.below' K1.out hb1);have R2:=κ (Blk.below' R1.out hb1);have HM1:=κ (HM0.out.below hb1);clear k0 k1 k2 k3 hb1;obtain⟨k0,k1,k2,k3⟩:=q4_of K2.out;by_cases hp:posE bk.op k<bk.op.length
 case neg=>
  have hP:=κ (placeF_f hp);rw[hP.out];have F3:Blk (st4 w1 gZ (ι sh) (ι ca) (.slice A nr c) (.slice C no d)) gZ 110 (vB sh ca A nr c C no d):=st4_blk R2.out;have BF:Below w.heap.size w (st4 w1 gZ (ι sh) (ι ca) (.slice A nr c) (.slice C no d)):=st4_below HB1.out hge.out
  have HEQ:fillF bk k y=(bk,15):=by
   exact fil_none (by omega) hp
  have hfin:MadeRb rl bk 15 w (.returned (.tuple #[.agg (vB sh ca A nr c C no d),ι 15])) (st4 w1 gZ (ι sh) (ι ca) (.slice A nr c) (.slice C no d)):=
   ⟨A,C,c,d,rl,by rw[copy_agg hsh.out hnr.out hno.out],hm.out.below BF,fun h=>absurd h (by decide),BF⟩
  have HF:=κ hfin;have HEQ:=κ HEQ;clear hfin BF;obtain⟨z0,z1,z2,z3,g0,g1,g2,g3⟩:=z4_of R2.out
  go_wp2_with fail
  obtain⟨e0,e1,e2,e3⟩:=q4_of F3;clear F3;unfold st4 at e0 e1 e2 e3 HF;exact bodyPost_ret (v:= .tuple #[.agg #[ι sh,ι ca,.slice A nr c,.slice C no d],ι 15]) (by simp[results,Tryz.results90,go_sem,e0,e1,e2,e3]) rfl (by rw[HEQ.out];exact HF.out)
 case pos=>
  have hP:=κ (placeF_t hp);obtain⟨cb,co,hC,hcb,hcc⟩:=Ens.at HM1.out.o (by omega);have hcs:=hcc (posE bk.op k) hp;rw[hP.out];obtain⟨i,hi0⟩:=ν (posE bk.op k);rw[←hi0]at hcs ⊢;rw[←hi0]at hp;have HI:=κ hi0;clear hi0 hP hcc;obtain⟨E,hE⟩:=ν (gE bk.op i);rw[←hE]at hcs;have HE:=κ hE;clear hE;obtain⟨eid,⟨ea,es,ex,eP,eQ,eN,eT⟩,eL,eS,eE⟩:=E;obtain⟨c0,c1,c2,c3,c4,c5,c6,c7,c8,c9,c10⟩:=hcs;simp only[]at c0 c1 c2 c3 c4 c5 c6 c7 c8 c9 c10;have hio:i<no:=by rw[hno.out];exact hp
  have tlt:decide ((i:Int)<(no:Int))=true:=by simp;omega
  have tne:decide ((i:Int)<0)=false:=by simp only[decide_eq_false_iff_not];omega
  have hpl:=hp;have HPL:=κ hpl;subst hC;have hlf1:inI eL:=by have h:=hlf.out i hpl;rw[←HE.out]at h;exact h
  by_cases h2:eL<y
  ·have t1:decide (eL<y)=true:=by simp[h2]
   have H2:=κ h2;clear h2;have F3:Blk (st4 w1 gZ (ι sh) (ι ca) (.slice A nr c) (.slice (some (α cb co)) no d)) gZ 110 (vB sh ca A nr c (some (α cb co)) no d):=st4_blk R2.out;have BF:Below w.heap.size w (st4 w1 gZ (ι sh) (ι ca) (.slice A nr c) (.slice (some (α cb co)) no d)):=st4_below HB1.out hge.out
   have HEQ:fillF bk k y=(bk,17):=by
    exact fil_17 (by omega) HI.out HPL.out (congrArg En.lf HE.out) H2.out
   have hfin:MadeRb rl bk 17 w (.returned (.tuple #[.agg (vB sh ca A nr c (some (α cb co)) no d),ι 17])) (st4 w1 gZ (ι sh) (ι ca) (.slice A nr c) (.slice (some (α cb co)) no d)):=
    ⟨A,some ⟨cb,co,none⟩,c,d,rl,by rw[copy_agg hsh.out hnr.out hno.out],hm.out.below BF,fun h=>absurd h (by decide),BF⟩
   have HF:=κ hfin;have HEQ:=κ HEQ;clear hfin BF;obtain⟨z0,z1,z2,z3,g0,g1,g2,g3⟩:=z4_of R2.out
   go_wp2_with fail
   obtain⟨e0,e1,e2,e3⟩:=q4_of F3;clear F3;unfold st4 at e0 e1 e2 e3 HF;exact bodyPost_ret (v:= .tuple #[.agg #[ι sh,ι ca,.slice A nr c,.slice (some (α cb co)) no d],ι 17]) (by simp[results,Tryz.results90,go_sem,e0,e1,e2,e3]) rfl (by rw[HEQ.out];exact HF.out)
  ·have t1:decide (eL<y)=false:=by simp only[decide_eq_false_iff_not];exact h2
   by_cases h3:y=eL
   ·have t2:(y==eL)=true:=by simp[h3]
    have H23:Hid (¬eL<y∧y=eL):=⟨h2,h3⟩;clear h2 h3;obtain⟨n7,hn7⟩:=ν ((delE bk.op i).length);have HN7:=κ hn7;clear hn7
    go_wp2_with fail
    refine(closed_any sh ca A (some (α cb co)) nr no c d rl bk i _ hsh hnr hno HM1 l1 l2 hd hio).mono ?_;rintro e w2 ⟨A',C',c',d',he,hco,hb2⟩;rw[show bkA A' C' c' d' ⟨bk.sh,bk.ca,bk.rows,delE bk.op i⟩= .agg #[.int .i64 sh,.int .i64 ca,.slice A' nr c',.slice C' n7 d'] from by unfold bkA;rw[hnr.out,hsh.out.1,hsh.out.2,HN7.out]]at he;subst he;have B2:=κ (CrdB.below_step HB1.out hb2);have R3:=κ (Blk.below' R2.out hb2);have O2:=κ (Co_mono hco HB1.out.size);clear hb2 hco k0 k1 k2 k3 c0 c1 c2 c3 c4 c5 c6 c7 c8 c9 c10;have F3:Blk (st4 w2 gZ (ι sh) (ι ca) (.slice A' nr c') (.slice C' n7 d')) gZ 110 (vB sh ca A' nr c' C' n7 d'):=st4_blk R3.out;have BF:Below w.heap.size w (st4 w2 gZ (ι sh) (ι ca) (.slice A' nr c') (.slice C' n7 d')):=st4_below B2.out hge.out;have OF:=Co_st4 O2.out R3.out _ _ _ _ (fun j hj=>Rd.below' (hm.out.n j hj) BF BF.size)
    have hfin:MadeRb rl ⟨bk.sh,bk.ca,bk.rows,delE bk.op i⟩ 0 w (.returned (.tuple #[.agg (vB sh ca A' nr c' C' n7 d'),ι 0])) (st4 w2 gZ (ι sh) (ι ca) (.slice A' nr c') (.slice C' n7 d')):=by
     refine⟨A',C',c',d',rl,?_,Co_bm OF,fun _=>Co_nw OF,BF⟩;unfold bkA;rw[←hnr.out,←hsh.out.1,←hsh.out.2];simp only[←HN7.out]
    have HEQ:=fil_all (by omega) HI.out HPL.out (lf:=eL) (congrArg En.lf HE.out) (by have h9:=H23.out.1;omega) H23.out.2;have HF:=κ hfin;have HEQ:=κ HEQ;clear hfin BF OF;obtain⟨z0,z1,z2,z3,g0,g1,g2,g3⟩:=z4_of R3.out
    go_wp2_with fail
    obtain⟨e0,e1,e2,e3⟩:=q4_of F3;clear F3;unfold st4 at e0 e1 e2 e3 HF;exact bodyPost_ret (v:= .tuple #[.agg #[ι sh,ι ca,.slice A' nr c',.slice C' n7 d'],ι 0]) (by simp[results,Tryz.results90,go_sem,e0,e1,e2,e3]) rfl (by rw[HEQ.out];exact HF.out)
   ·have t2:(y==eL)=false:=by simp[h3]
    have H23:Hid (¬eL<y∧ ¬y=eL):=⟨h2,h3⟩
    have ew:IntKind.i64.wrap (eL-y)=eL-y:=by
     rw[IntKind.wrap_i64];obtain⟨h8,h9⟩:=hlf1;omega
    clear h2 h3
    go_wp2_with fail
    refine(copied_any sh ca A (some (α cb co)) nr no c d rl bk _ hsh hnr hno HM1 l1 l2).mono ?_;rintro e w2 ⟨A',C',c',d',he,hco,hb2⟩;rw[copy_agg hsh.out hnr.out hno.out]at he;subst he;obtain⟨go,hgo⟩:=Bko.own_at hco.o (by rw[←hno.out];omega);subst hgo;have U3:=β w2 (.cells (vB sh ca A' nr c' (some (α go 0)) no d') 110);have V3:=κ (Blk.fresh w2 110 (vB sh ca A' nr c' (some (α go 0)) no d'));have B3:=κ (CrdB.below_step (CrdB.below_step HB1.out hb2) U3);have K3:=κ (Blk.below' (Blk.below' K2.out hb2) U3);have R3:=κ (Blk.below' (Blk.below' R2.out hb2) U3);have O3:=κ (Co_below (Co_mono hco HB1.out.size) U3);have hVZ:Hid (w2.heap.size≠gZ):=by show _≠_;have:=(Blk.below' R2.out hb2).lt;omega
    clear k0 k1 k2 k3 c0 c1 c2 c3 c4 c5 c6 c7 c8 c9 c10 hb2 hco U3 HM1 K2 R2 HB1
    go_upto_region 11 with fail
    generalize w2.alloc (.cells (vB sh ca A' nr c' (some (α go 0)) no d') 110)=w3 at V3 B3 K3 R3 O3 ⊢;generalize w2.heap.size=gV at V3 hVZ ⊢;have V3d:=κ (ε V3.out);have B3d:=κ (Below.drew B3.out);have R3d:=κ (ε R3.out);have O3d:=κ (Co_below O3.out (Below.drew ψ));clear V3 B3 R3 O3 K3;refine wp_region_noPanic ?_;let T172:World→Prop:=fun w'=>w'.cell? (α gV 3)=some (.slice (some (α go 0)) no d')∧w'.cell? (α go (i*11+8))=some (ι eL)
    refine wp_region_L (T:=T172) (st:=[13]) (by kernel_rfl) ?_;generalize w3.drew=wd at V3d B3d R3d O3d ⊢;have RM:=own_room (show World.ownsRow wd w.heap.size 122 11 (.slice (some (α go 0)) no d') no (ens bk.op) from by have h:=O3d.out.o;rw[←hno.out]at h;exact h);have hcd:=RM.2.2.1;have x9:=RM.2.2.2.2.2 (i*11+8) _ (ens_get bk.op i 8 (by rw[←hno.out];exact hio) (by decide));have y9:=(RM.2.2.2.2.1 (i*11+8) (by omega)).2;clear RM;have B4:Hid (Below w.heap.size w (wd.setCell (α go (i*11+8)) (ι (eL-y)))):=B3d.out.setCell (p:=(α go (i*11+8))) (show w.heap.size≤go from Tre.own_fresh O3d.out.o (α go 0) rfl) _;have s4:=World.ownsRow.stored O3d.out.o (i*11+8) (ι (eL-y));have V4:=κ (blk_own_grown V3d.out O3d.out.o (by decide) s4.2);have R4:=κ (blk_own_grown R3d.out O3d.out.o (by decide) s4.2);have O4:=κ (Co_set O3d.out _ _ _ (ens_setL _ _ (by rw[←hno.out];exact hio) _).symm (List.length_set) (fun j hj=>Rd.below' (hm.out.n j hj) B4.out B4.out.size));clear s4;rw[←HE.out]at x9;have HT:Hid (T172 wd):=⟨V3d.out.cell 3,x9⟩;refine jA 0 HT.out ?_;refine jB 1 HT.out ?_;refine jA 2 HT.out ?_;refine jA 3 HT.out ?_;refine jB 4 HT.out ?_;refine jA 5 HT.out ?_;refine jA 6 HT.out ?_;refine jA 7 HT.out ?_;refine jB 8 HT.out ?_;refine jA 9 HT.out ?_;refine jA 10 HT.out ?_;refine jA 11 HT.out ?_;refine jA 12 HT.out ?_;refine jV 13 fun K' hK=>?_
    go_simp;refine hK.out _ _ ?_;clear hK K';refine jP ?_;refine Δ ?_
    go_upto_region 12 with fail
    clear x9 y9 V3d B3d R3d O3d HT;generalize (wd.setCell (α go (i*11+8)) (ι (eL-y)))=w4 at B4 V4 R4 O4 ⊢;have F3:Blk (st4 w4 gZ (ι sh) (ι ca) (.slice A' nr c') (.slice (some (α go 0)) no d')) gZ 110 (vB sh ca A' nr c' (some (α go 0)) no d'):=st4_blk R4.out;have BF:Below w.heap.size w (st4 w4 gZ (ι sh) (ι ca) (.slice A' nr c') (.slice (some (α go 0)) no d')):=st4_below B4.out hge.out;have OF:=Co_st4 O4.out R4.out _ _ _ _ (fun j hj=>Rd.below' (hm.out.n j hj) BF BF.size)
    have hfin:MadeRb rl ⟨bk.sh,bk.ca,bk.rows,bk.op.set i (setL (gE bk.op i) (eL-y))⟩ 0 w (.returned (.tuple #[.agg (vB sh ca A' nr c' (some (α go 0)) no d'),ι 0])) (st4 w4 gZ (ι sh) (ι ca) (.slice A' nr c') (.slice (some (α go 0)) no d')):=by
     refine⟨A',some (α go 0),c',d',rl,?_,Co_bm OF,fun _=>Co_nw OF,BF⟩;unfold bkA;rw[←hnr.out,←hsh.out.1,←hsh.out.2];simp only[List.length_set,←hno.out]
    have HEQ:fillF bk k y=(⟨bk.sh,bk.ca,bk.rows,bk.op.set i (setL (gE bk.op i) (eL-y))⟩,0):=by
     exact fil_part (by omega) HI.out HPL.out (lf:=eL) (congrArg En.lf HE.out) (by have h9:=H23.out.1;omega) H23.out.2
    have HF:=κ hfin;have HEQ:=κ HEQ;clear hfin BF OF;obtain⟨v0,v1,v2,v3,_,_,_,_⟩:=z4_of V4.out;obtain⟨z0,z1,z2,z3,g0,g1,g2,g3⟩:=z4_of R4.out
    go_wp2_with fail
    obtain⟨e0,e1,e2,e3⟩:=q4_of F3;clear F3;unfold st4 at e0 e1 e2 e3 HF;exact bodyPost_ret (v:= .tuple #[.agg #[ι sh,ι ca,.slice A' nr c',.slice (some (α go 0)) no d'],ι 0]) (by simp[results,Tryz.results90,go_sem,e0,e1,e2,e3]) rfl (by rw[HEQ.out];exact HF.out)
end Rbe
namespace Rbf
open Bkj Rbe
open Bkw hiding infoN
def MadeBg(n:Nat)(sh:Int)(w:World)(e:Ending)(w':World):Prop:=
 e= .returned (bkA (some ⟨w.heap.size+1+1,0,none⟩) none n 0 (beginF n sh))∧Bm w' (some ⟨w.heap.size+1+1,0,none⟩) none (List.replicate n rc0) (beginF n sh)∧Below w.heap.size w w'
variable {ca sh:Int} {op:List En} {ids:List Int} {rl:List Rc} {c ci d gV gZ ni no nr:Nat} {A Ai C:Option Addr} {w w' w0:World}
theorem rbegin7_any(sk wi ra ta:Int)(A1 A2 A3:Option Addr)(n1 n2 n3 c1 c2 c3:Nat)(sh:Int)(w:World)(hmax:n2≤1000):
  Calls Tryz.prog 29 #[.agg #[.int .i64 sk,.int .i64 wi,.int .i64 ra,.int .i64 ta,.slice A1 n1 c1,.slice A2 n2 c2,.slice A3 n3 c3],.int .i64 sh] w (MadeBg n2 sh w):=by
 obtain⟨i0,hi,hz0,hz1,hz2⟩:=info_parts infoRR;have hmk:=fun(W:World)=>run_make (P:=Tryz.prog) W 107 153 i0 _ Tryz.underlying107 hi hz0 .i64 .i64 (n2:Int) (n2:Int) (by omega) (by omega) (by rw[hz2];omega) (by omega)
 simp only[Int.toNat_natCast,hz1]at hmk;have hmk2: ∀W:World,(Instr.makeSlice 107 (ι (n2:Int)) (ι (n2:Int))).run Tryz.prog W= .ok (.slice (some (α W.heap.size 0)) n2 n2) (W.alloc (.cells (madeCells zRow (n2*3)) 153)):=fun W=>by first|exact hmk W|simpa[zRow] using hmk W
 have b0:Hid (Below w.heap.size w (((w.alloc (.cells (vC sk wi ra ta A1 n1 c1 A2 n2 c2 A3 n3 c3) 30)).alloc (.cells (vB sh 0 (some (α (w.heap.size+1+1) 0)) n2 n2 none 0 0) 110)).alloc (.cells (madeCells zRow (n2*3)) 153))):=((ψ.alloc τ _).alloc (by simp) _).alloc (by simp<;>omega) _;have K0:Hid (Blk (((w.alloc (.cells (vC sk wi ra ta A1 n1 c1 A2 n2 c2 A3 n3 c3) 30)).alloc (.cells (vB sh 0 (some (α (w.heap.size+1+1) 0)) n2 n2 none 0 0) 110)).alloc (.cells (madeCells zRow (n2*3)) 153)) (w.heap.size+1) 110 (vB sh 0 (some (α (w.heap.size+1+1) 0)) n2 n2 none 0 0)):=Blk.alloc (blk_hd (by simp)) _;have Z0:=κ (δ ((w.alloc (.cells (vC sk wi ra ta A1 n1 c1 A2 n2 c2 A3 n3 c3) 30)).alloc (.cells (vB sh 0 (some (α (w.heap.size+1+1) 0)) n2 n2 none 0 0) 110)) 153 (madeCells zRow (n2*3)) (w.heap.size+1+1));clear hmk
 go_enter Tryz.func29,Tryz.ntmps29
 go_wp2_with fail
 obtain⟨k0,k1,k2,k3⟩:=q4_of K0.out
 have hfin:MadeBg n2 sh w (.returned (.agg (vB sh 0 (some (α (w.heap.size+1+1) 0)) n2 n2 none 0 0))) (((w.alloc (.cells (vC sk wi ra ta A1 n1 c1 A2 n2 c2 A3 n3 c3) 30)).alloc (.cells (vB sh 0 (some (α (w.heap.size+1+1) 0)) n2 n2 none 0 0) 110)).alloc (.cells (madeCells zRow (n2*3)) 153)):=by
  refine⟨?_,⟨Z0.out.rd' (made_rows n2),?_,?_,.inl rfl⟩,b0.out⟩
  ·simp[bkA,beginF]
  ·simp[beginF,rc0]
  ·intro i hi
   have e:gC (List.replicate n2 rc0) i=rc0:=by
    rw[List.length_replicate]at hi;simp[gC,hi]
   rw[e];exact .inl rfl
 exact bodyPost_ret (v:= .agg #[ι sh,ι 0,.slice (some (α (w.heap.size+1+1) 0)) n2 n2,.slice none 0 0]) (by simp[results,Tryz.results29,go_sem,k0,k1,k2,k3]) rfl hfin
theorem infoN:(Tryz.prog.info? 3).map (fun i=>(i.zero,i.size,i.bytes))=some (some (.int .i64 0),1,8):=by kernel_rfl
structure Sr(w0 w:World)(gV gZ:Nat)(sh ca:Int)(A C:Option Addr)(nr c no d:Nat)(rl:List Rc)(op:List En)(Ai:Option Addr)(ni ci:Nat)(ids:List Int):Prop where
 kV:Blk w gV 110 #[.int .i64 sh,.int .i64 ca,.slice A nr c,.slice C no d]
 kZ:Blk w gZ 110 #[.int .i64 0,.int .i64 0,.slice none 0 0,.slice none 0 0]
 r:w.ownsRow w0.heap.size 153 3 (.slice A nr c) nr (rcs rl)
 o:w.ownsRow w0.heap.size 122 11 (.slice C no d) no (ens op)
 ids:w.ownsRow w0.heap.size 3 1 (.slice Ai ni ci) ni (ints ids)
 b:Below w0.heap.size w0 w
theorem Sr_below(h:Sr w0 w gV gZ sh ca A C nr c no d rl op Ai ni ci ids)(hb:Below w.heap.size w w'):Sr w0 w' gV gZ sh ca A C nr c no d rl op Ai ni ci ids:=
 ⟨Blk.below' h.kV hb,Blk.below' h.kZ hb,own_below h.r hb,own_below h.o hb,own_below h.ids hb,CrdB.below_step h.b hb⟩
theorem Sr_set{go:Nat}(h:Sr w0 w gV gZ sh ca A (some ⟨go,0,none⟩) nr c no d rl op Ai ni ci ids)(i:Nat)(hi:i<op.length):
  Sr w0 (w.setCell ⟨go,i*11+9,none⟩ (.int .i64 2)) gV gZ sh ca A (some ⟨go,0,none⟩) nr c no d rl (op.set i (setS (gE op i) 2)) Ai ni ci ids:=by
 obtain⟨s1,g1⟩:=World.ownsRow.stored h.o (i*11+9) (.int .i64 2);exact⟨blk_own_grown h.kV h.o (by decide) g1,blk_own_grown h.kZ h.o (by decide) g1,Apt.own_grown h.r h.o (by decide) g1,by rw[ens_setS _ _ hi _];exact s1,Apt.own_grown h.ids h.o (by decide) g1,h.b.setCell (p:=(α go (i*11+9))) (show w0.heap.size≤go from Tre.own_fresh h.o (α go 0) rfl) _⟩
theorem Sr_app(h:Sr w0 w gV gZ sh ca A C nr c no d rl op Ai ni ci ids){A':Option Addr}{n' c':Nat}{x:Int}
  (ho:w'.ownsRow w0.heap.size 3 1 (.slice A' n' c') n' (ints ids++[.int .i64 x]))(hg:w.grownBy w' (Value.slice Ai ni ci).ownBlock):Sr w0 w' gV gZ sh ca A C nr c no d rl op A' n' c' (ids++[x]):=
 ⟨blk_own_grown h.kV h.ids (by decide) hg,blk_own_grown h.kZ h.ids (by decide) hg,Apt.own_grown h.r h.ids (by decide) hg,Apt.own_grown h.o h.ids (by decide) hg,by rw[ints_snoc];exact ho,grown_below h.b h.ids hg τ h.b.size⟩
def MadeRs(rl:List Rc)(b:Bk)(ids:List Int)(w:World)(e:Ending)(w':World):Prop:=
 ∃A C c d Ai ci,e= .returned (.tuple #[bkA A C c d b,.slice Ai ids.length ci])∧Bm w' A C rl b∧Nw w.heap.size rl A C rl∧b.op.length≤d∧Ris w' w'.heap.size Ai ids∧(∀a,Ai=some a→w.heap.size≤a.block)∧Below w.heap.size w w'
theorem rsweep_any(sh ca:Int)(A C:Option Addr)(nr no c d:Nat)(rl:List Rc)(bk:Bk)(ep:Int)(w:World)(hsh:Hid (sh=bk.sh∧ca=bk.ca))(hnr:Hid (nr=bk.rows.length))(hno:Hid (no=bk.op.length))(hm:Hid (Bm w A C rl bk))(l1:nr≤1000)(l2:no≤1000):
  Calls Tryz.prog 80 #[.agg #[.int .i64 sh,.int .i64 ca,.slice A nr c,.slice C no d],.int .i64 ep] w (MadeRs rl (sweepF bk ep) (swI ep bk.op) w):=by
 obtain⟨i0,hi,hz0,hz1,hz2⟩:=info_parts infoN;have b0:=κ (γ w (.cells (vB sh ca A nr c C no d) 110) (.cells (vB 0 0 none 0 0 none 0 0) 110));have K0:=κ ((Blk.fresh w 110 (vB sh ca A nr c C no d)).alloc (.cells (vB 0 0 none 0 0 none 0 0) 110));have R0:=κ (δ (w.alloc (.cells (vB sh ca A nr c C no d) 110)) 110 (vB 0 0 none 0 0 none 0 0) (w.heap.size+1))
 go_enter Tryz.func80,Tryz.ntmps80
 go_upto_region 1 with fail
 obtain⟨gB,hgB⟩:=ν w.heap.size;obtain⟨gZ,hgR⟩:=ν (w.heap.size+1);have K1:=κ (ζ hgB K0.out);have R1:=κ (ζ hgR R0.out);have hge:Hid (w.heap.size≤gZ):=by show _≤_;omega
 simp only[←hgR];simp only[←hgB];clear hgB hgR K0 R0;generalize ((w.alloc (.cells (vB sh ca A nr c C no d) 110)).alloc (.cells (vB 0 0 none 0 0 none 0 0) 110))=w0 at b0 K1 R1 ⊢;have HM0:=κ (hm.out.below b0.out);obtain⟨k0,k1,k2,k3⟩:=q4_of K1.out
 go_wp2_with fail
 refine(copied_any sh ca A C nr no c d rl bk _ hsh hnr hno HM0 l1 l2).mono ?_;rintro e w2 ⟨A',C',c',d',he,hco,hb2⟩;rw[copy_agg hsh.out hnr.out hno.out]at he;subst he;have U3:=β w2 (.cells (vB sh ca A' nr c' C' no d') 110);have V3:=κ (Blk.fresh w2 110 (vB sh ca A' nr c' C' no d'));have B3:=κ (CrdB.below_step (CrdB.below_step b0.out hb2) U3);have R3:=κ (Blk.below' (Blk.below' R1.out hb2) U3);have O3:=κ (Co_below (Co_mono hco b0.out.size) U3);clear k0 k1 k2 k3 hb2 hco U3 b0 K1 R1 HM0
 go_upto_region 2 with fail
 generalize w2.alloc (.cells (vB sh ca A' nr c' C' no d') 110)=w3 at V3 B3 R3 O3 ⊢;generalize w2.heap.size=gV at V3 ⊢;have SR0:Hid (Sr w w3 gV gZ sh ca A' C' nr c' no d' rl (swO ep bk.op 0) none 0 0 (swI ep (bk.op.take 0))):=⟨V3.out,R3.out,by have h:=O3.out.r;rw[←hnr.out]at h;exact h,by have h:=O3.out.o;rw[←hno.out]at h;exact h,World.ownsRow_nil _ _ _ _,B3.out⟩;clear V3 B3 R3 O3
 go_wp2_with fail
 go_loopg [7,8] no (fun g s7 s8 w'=> ∃(i:Nat) (Ai:Option Addr) (ni ci:Nat),i+g=no∧s7= .slice Ai ni ci∧s8= ι i∧Hid (ni=(swI ep (bk.op.take i)).length)∧Hid (Sr w w' gV gZ sh ca A' C' nr c' no d' rl (swO ep bk.op i) Ai ni ci (swI ep (bk.op.take i))))
 case atStart=>exact⟨0,none,0,0,by omega,rfl,rfl,rfl,SR0⟩
 case round=>
  clear SR0;obtain⟨i,Ai,ni,ci,hg0,rfl,rfl,HNI,SWi⟩:=hrel;obtain⟨v0,v1,v2,v3⟩:=q4_of SWi.out.kV;by_cases hlt:i<no
  ·obtain⟨g,rfl⟩: ∃g,gk=g+1:=⟨gk-1,by omega⟩;have t0:decide ((i:Int)<(no:Int))=true:=by simp;omega
   have hio:i<bk.op.length:=by rw[←hno.out];exact hlt
   have hol:(swO ep bk.op i).length=bk.op.length:=swO_len _ _ _;obtain⟨go,hgo⟩:=Bko.own_at SWi.out.o (by omega);subst hgo;obtain⟨_,_,hncap,_,hroom,hcell⟩:=own_room SWi.out.o;have cs:=fun j (hj:j<11) v hv=>hcell (i*11+j) v ((ens_get (swO ep bk.op i) i j (by omega) hj).trans hv)
   rw[swO_get _ _ _ hio]at cs;obtain⟨E,hE⟩:=ν (gE bk.op i);rw[←hE]at cs;have HE:=κ hE;clear hE;obtain⟨id,⟨ea,es,ex,eP,eQ,eN,eT⟩,eL,st,ep'⟩:=E;have c0:=cs 0 (by decide) _ rfl;have c9:=cs 9 (by decide) _ rfl;have c10:=cs 10 (by decide) _ rfl;have f9:=(hroom (i*11+9) (by omega)).2;simp only[Nat.add_zero]at c0;clear cs hcell hroom;by_cases hst:st=1
   ·have t1:(st==1)=true:=by simp[hst]
    by_cases hep:ep'≤ep
    ·have t2:decide (ep'≤ep)=true:=by simp[hep]
     have hC:swC ep (gE bk.op i)=true:=by rw[←HE.out];unfold swC;simp[hst,hep]
     have HO:=κ (swO_yes ep bk.op i hio hC);have HI2:=κ (swI_succ ep bk.op i hio);rw[hC,if_pos rfl,←HE.out]at HI2;have HID:Hid ((⟨id,⟨ea,es,ex,eP,eQ,eN,eT⟩,eL,st,ep'⟩:En).id=id):=rfl;rw[HID.out]at HI2;have hnl:ni≤1000:=by rw[HNI.out];have:=swI_le ep (bk.op.take i);rw[List.length_take]at this;omega
     clear hst hC
     have S6:Hid (Sr w (wr.setCell (α go (i*11+9)) (ι 2)) gV gZ sh ca A' (some (α go 0)) nr c' no d' rl (swO ep bk.op (i+1)) Ai ni ci (swI ep (bk.op.take i))):=by
      rw[HO.out,←swO_get ep bk.op i hio];exact Sr_set SWi.out i (by omega)
     have d0:=ω (α go (i*11+9)) (ι 2) c0
     go_upto_region 8 with fail
     clear v0 v1 v2 v3 c0 c9 c10 f9 HO SWi;generalize wr.setCell (α go (i*11+9)) (ι 2)=w6 at S6 d0 ⊢;obtain⟨v0,v1,v2,v3⟩:=q4_of S6.out.kV;obtain⟨ni1,hni1⟩:=ν (ni+1);have HN1:=κ hni1;clear hni1;have V0:=κ (β w6 (.cells #[ι id] 3));have V1:=κ (Sr_below S6.out V0.out);have V2:Hid (Rd (w6.alloc (.cells #[ι id] 3)) (w6.alloc (.cells #[ι id] 3)).heap.size (some (α w6.heap.size 0)) [ι id]):=rd_new rfl;have V3:=κ V1.out.b.size
     go_wp2_with (at_builtin;go_loud (refine wpList_appRG (nm:=ni1) (show Hid _ from V1.out.ids) V2 HN1.out rfl _ _ _ rfl i0 (.int .i64 0) 8 Tryz.underlying23 hi hz0 hz1 hz2 rfl (by decide) rfl rfl (by simp) (by simp[Value.oneCell']) (by unfold maxLen;omega) (by omega) V3.out ?_);intro A6 c6 w7 hown1 hgr1)
     have S7:=κ (Sr_app V1.out hown1.out hgr1);rw[←HI2.out]at S7;have HN7:Hid (ni1=(swI ep (bk.op.take (i+1))).length):=by show _=_;rw[HI2.out,List.length_append,HN1.out,HNI.out];rfl
     clear hgr1 hown1 V0 V1 V2 V3 v0 v1 v2 v3 S6 HI2 d0
     go_roundg g
     case measure=>omega
     case rel=>exact⟨i+1,A6,ni1,c6,by omega,rfl,by rw[Int.natCast_add];rfl,HN7,S7⟩
    ·have t2:decide (ep'≤ep)=false:=by simp only[decide_eq_false_iff_not];exact hep
     have hC:swC ep (gE bk.op i)=false:=by rw[←HE.out];unfold swC;simp[hep]
     have HO:=κ (swO_no ep bk.op i hio hC);have HI2:=κ (swI_succ ep bk.op i hio);rw[hC,if_neg (by decide),List.append_nil]at HI2;have S7:Hid (Sr w wr gV gZ sh ca A' (some (α go 0)) nr c' no d' rl (swO ep bk.op (i+1)) Ai ni ci (swI ep (bk.op.take (i+1)))):=by rw[HO.out,HI2.out];exact SWi.out
     have HN7:Hid (ni=(swI ep (bk.op.take (i+1))).length):=by show _=_;rw[HI2.out];exact HNI.out
     clear hC HO HI2
     go_wp2_with fail
     go_roundg g
     case measure=>omega
     case rel=>exact⟨i+1,Ai,ni,ci,by omega,rfl,by rw[Int.natCast_add];rfl,HN7,S7⟩
   ·have t1:(st==1)=false:=by simp[hst]
    have hC:swC ep (gE bk.op i)=false:=by rw[←HE.out];unfold swC;simp[hst]
    have HO:=κ (swO_no ep bk.op i hio hC);have HI2:=κ (swI_succ ep bk.op i hio);rw[hC,if_neg (by decide),List.append_nil]at HI2;have S7:Hid (Sr w wr gV gZ sh ca A' (some (α go 0)) nr c' no d' rl (swO ep bk.op (i+1)) Ai ni ci (swI ep (bk.op.take (i+1)))):=by rw[HO.out,HI2.out];exact SWi.out
    have HN7:Hid (ni=(swI ep (bk.op.take (i+1))).length):=by show _=_;rw[HI2.out];exact HNI.out
    clear hC HO HI2
    go_wp2_with fail
    go_roundg g
    case measure=>omega
    case rel=>exact⟨i+1,Ai,ni,ci,by omega,rfl,by rw[Int.natCast_add];rfl,HN7,S7⟩
  ·have t0:decide ((i:Int)<(no:Int))=false:=by simp;omega
   have hin:i=no:=by omega
   have hall:Hid (swO ep bk.op i=bk.op.map (swE ep)):=by show _=_;rw[hin,hno.out];exact swO_all _ _
   have hids:Hid (swI ep (bk.op.take i)=swI ep bk.op):=by show _=_;rw[hin,hno.out,List.take_length]
   have S9:=SWi.out;rw[hall.out,hids.out]at S9;rw[hids.out]at HNI;have F3:Blk (st4 wr gZ (ι sh) (ι ca) (.slice A' nr c') (.slice C' no d')) gZ 110 (vB sh ca A' nr c' C' no d'):=st4_blk S9.kZ;have BF:Below w.heap.size w (st4 wr gZ (ι sh) (ι ca) (.slice A' nr c') (.slice C' no d')):=st4_below S9.b hge.out
   have hfin:MadeRs rl (sweepF bk ep) (swI ep bk.op) w (.returned (.tuple #[.agg (vB sh ca A' nr c' C' no d'),.slice Ai ni ci])) (st4 wr gZ (ι sh) (ι ca) (.slice A' nr c') (.slice C' no d')):=by
    have r4:=own_st4 S9.r S9.kZ (by decide) (v0:= ι sh) (v1:= ι ca) (v2:= .slice A' nr c') (v3:= .slice C' no d');have o4:=own_st4 S9.o S9.kZ (by decide) (v0:= ι sh) (v1:= ι ca) (v2:= .slice A' nr c') (v3:= .slice C' no d');have i4:=own_st4 S9.ids S9.kZ (by decide) (v0:= ι sh) (v1:= ι ca) (v2:= .slice A' nr c') (v3:= .slice C' no d');refine⟨A',C',c',d',Ai,ci,?_,⟨Rd.of_own r4,hm.out.e,fun k hk=>Rd.below' (hm.out.n k hk) BF BF.size,Rd.of_own o4⟩,⟨fun a ha=>Tre.own_fresh S9.r a ha,fun a ha=>Tre.own_fresh S9.o a ha,fun k hk=> .inr ⟨k,hk,rfl⟩⟩,?_,Rd.of_own i4,fun a ha=>Tre.own_fresh S9.ids a ha,BF⟩
    ·unfold bkA sweepF;simp[hnr.out,hno.out,HNI.out,hsh.out.1,hsh.out.2]
    ·show(bk.op.map (swE ep)).length≤d';rw[List.length_map,←hno.out];exact own_cap S9.o
   have HF:=κ hfin;obtain⟨z0,z1,z2,z3,f0,f1,f2,f3⟩:=z4_of S9.kZ;clear hfin S9 SWi hin BF
   go_wp2_with fail
   obtain⟨d0,d1,d2,d3⟩:=q4_of F3;clear F3;unfold st4 at d0 d1 d2 d3 HF;exact bodyPost_ret (v:= .tuple #[.agg #[ι sh,ι ca,.slice A' nr c',.slice C' no d'],.slice Ai ni ci]) (by simp[results,Tryz.results80,go_sem,d0,d1,d2,d3]) rfl HF.out
end Rbf
end Go.Proofs.YtfbajlcljfjbkaaGreat
