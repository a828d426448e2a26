/- Texts side by side. -/
import Derived.Test.YtcccdikhfgpamaaGreatUfav
import Derived.Test.YtcccdikhfgpamaaGreatUfaz
import Derived.Test.YtcccdikhfgpamaaGreatUfbd
set_option linter.unusedVariables false
set_option linter.unusedSimpArgs false
set_option maxRecDepth 100000
set_option maxHeartbeats 16000000
namespace Go.Proofs.YtcccdikhfgpamaaGreat
open Kap Abv Go.ChangeShapes Go.WideShapes Go.ChangeAt Go.RowKit Mem Tre Ref3 Law3 CrdB CrdC Rr4 Bkp Bks Bkf Bkg Bcl Dlk Stk Apt Bko Bku Bka Bkc Lat Rba Rbc Rbd
namespace Rbe
open Lax
variable {b:Bk} {k lf st y:Int} {rl:List Rc} {base c d i:Nat} {A:Option Addr} {w:World}
theorem Co_set{go:Nat}(h:Co base w A (some ⟨go,0,none⟩) c d rl b)(j:Nat)(v:Value)(op':List En)(e:(ens b.op).set j v=ens op')(hl:op'.length=b.op.length)
  (hn: ∀i,i<rl.length→Ris (w.setCell ⟨go,j,none⟩ v) (w.setCell ⟨go,j,none⟩ v).heap.size (gC rl i).A (gC rl i).r.ns):Co base (w.setCell ⟨go,j,none⟩ v) A (some ⟨go,0,none⟩) c d rl ⟨b.sh,b.ca,b.rows,op'⟩:=by
 obtain⟨a,f⟩:=World.ownsRow.stored h.o j v;refine⟨Apt.own_grown h.r h.o (by decide) f,?_,h.e,hn⟩;rw[e]at a;show World.ownsRow _ _ _ _ (.slice _ op'.length _) op'.length _;rw[hl];exact a
theorem Co_st4{C:Option Addr}{g:Nat}(h:Co base w A C c d rl b){u0 u1 u2 u3:Value}(hk:Blk w g 122 #[u0,u1,u2,u3])(v0 v1 v2 v3:Value)(hn: ∀i,i<rl.length→Ris (st4 w g v0 v1 v2 v3) (st4 w g v0 v1 v2 v3).heap.size (gC rl i).A (gC rl i).r.ns):Co base (st4 w g v0 v1 v2 v3) A C c d rl b:=
 ⟨own_st4 h.r hk (by decide),own_st4 h.o hk (by decide),h.e,hn⟩
theorem can_none(h: ¬posE b.op k<b.op.length):cancelF b k=(b,15):=by unfold cancelF;rw[if_neg h]
theorem can_16(hi:i=posE b.op k)(h:i<b.op.length)(hs:st=(gE b.op i).st)(h2:st=2):cancelF b k=(b,16):=by
 unfold cancelF;rw[←hi,if_pos h,←hs,if_pos h2]
theorem can_ok(hi:i=posE b.op k)(h:i<b.op.length)(hs:st=(gE b.op i).st)(h2: ¬st=2):cancelF b k=(⟨b.sh,b.ca,b.rows,b.op.set i (setS (gE b.op i) 2)⟩,0):=by
 unfold cancelF;rw[←hi,if_pos h,←hs,if_neg h2]
theorem ack_none(h: ¬posE b.op k<b.op.length):ackF b k=(b,15):=by unfold ackF;rw[if_neg h]
theorem ack_16(hi:i=posE b.op k)(h:i<b.op.length)(hs:st=(gE b.op i).st)(h2:st=1):ackF b k=(b,16):=by
 unfold ackF;rw[←hi,if_pos h,←hs,if_pos h2]
theorem ack_ok'(hi:i=posE b.op k)(h:i<b.op.length)(hs:st=(gE b.op i).st)(h2: ¬st=1):ackF b k=(⟨b.sh,b.ca,b.rows,delE b.op i⟩,0):=by
 unfold ackF;rw[←hi,if_pos h,←hs,if_neg h2]
theorem fil_1(h:y<1):fillF b k y=(b,1):=by unfold fillF;rw[if_pos h]
theorem fil_none(h0: ¬y<1)(h: ¬posE b.op k<b.op.length):fillF b k y=(b,15):=by unfold fillF;rw[if_neg h0,if_neg h]
theorem fil_17(h0: ¬y<1)(hi:i=posE b.op k)(h:i<b.op.length)(hs:lf=(gE b.op i).lf)(h2:lf<y):fillF b k y=(b,17):=by
 unfold fillF;rw[if_neg h0,←hi,if_pos h,←hs,if_pos h2]
theorem fil_all(h0: ¬y<1)(hi:i=posE b.op k)(h:i<b.op.length)(hs:lf=(gE b.op i).lf)(h2: ¬lf<y)(h3:y=lf):fillF b k y=(⟨b.sh,b.ca,b.rows,delE b.op i⟩,0):=by
 unfold fillF;rw[if_neg h0,←hi,if_pos h,←hs,if_neg h2,if_pos (by omega)]
theorem fil_part(h0: ¬y<1)(hi:i=posE b.op k)(h:i<b.op.length)(hs:lf=(gE b.op i).lf)(h2: ¬lf<y)(h3: ¬y=lf):fillF b k y=(⟨b.sh,b.ca,b.rows,b.op.set i (setL (gE b.op i) (lf-y))⟩,0):=by
 unfold fillF;rw[if_neg h0,←hi,if_pos h,←hs,if_neg h2,if_neg (by omega)]
theorem rcancel_any(sh ca:Int)(A C:Option Addr)(nr no c d:Nat)(rl:List Rc)(bk:Bk)(k:Int)(w:World)(hsh:Hid (sh=bk.sh∧ca=bk.ca))(hnr:Hid (nr=bk.rows.length))(hno:Hid (no=bk.op.length))(hm:Hid (Bm w A C rl bk))(l1:nr≤1000)(l2:no≤1000)(hd:no≤d):
  Calls Tryz.prog 74 #[.agg #[.int .i64 sh,.int .i64 ca,.slice A nr c,.slice C no d],.int .i64 k] w (MadeRb rl (cancelF bk k).1 (cancelF bk k).2 w):=by
 have b0:=κ (γ w (.cells (vB sh ca A nr c C no d) 122) (.cells (vB 0 0 none 0 0 none 0 0) 122));have K0:=κ ((Blk.fresh w 122 (vB sh ca A nr c C no d)).alloc (.cells (vB 0 0 none 0 0 none 0 0) 122));have R0:=κ (δ (w.alloc (.cells (vB sh ca A nr c C no d) 122)) 122 (vB 0 0 none 0 0 none 0 0) (w.heap.size+1))
 go_enter Tryz.func74,Tryz.ntmps74
 go_upto_region 1 with fail
 obtain⟨gB,R⟩:=ν w.heap.size;obtain⟨l,S⟩:=ν (w.heap.size+1);have K1:=κ (ζ R K0.o);have R1:=κ (ζ S R0.o);have T:Hid (w.heap.size≤l):=by show _≤_;omega
 simp only[←S];simp only[←R];clear R S K0 R0;generalize ((w.alloc (.cells (vB sh ca A nr c C no d) 122)).alloc (.cells (vB 0 0 none 0 0 none 0 0) 122))=w0 at b0 K1 R1 ⊢;have Z:=κ (hm.o.below b0.o);obtain⟨k0,k1,k2,k3⟩:=q4_of K1.o
 go_wp2_with fail
 refine(at_any sh ca A C nr no c d bk.op k _ hno (κ Z.o.o) (by omega)).mono ?_;rintro e Y ⟨rfl,q⟩;have r:=κ (CrdB.below_step b0.o q);have K2:=κ (Blk.below' K1.o q);have U:=κ (Blk.below' R1.o q);have V:=κ (Z.o.below q);clear k0 k1 k2 k3 q;obtain⟨k0,k1,k2,k3⟩:=q4_of K2.o;by_cases hp:posE bk.op k<bk.op.length
 case neg=>
  have hP:=κ (placeF_f hp);rw[hP.o];have G:Blk (st4 Y l (ι sh) (ι ca) (.slice A nr c) (.slice C no d)) l 122 (vB sh ca A nr c C no d):=st4_blk U.o;have m:Below w.heap.size w (st4 Y l (ι sh) (ι ca) (.slice A nr c) (.slice C no d)):=st4_below r.o T.o
  have f:cancelF bk k=(bk,15):=by
   exact can_none hp
  have a:MadeRb rl bk 15 w (.returned (.tuple #[.agg (vB sh ca A nr c C no d),ι 15])) (st4 Y l (ι sh) (ι ca) (.slice A nr c) (.slice C no d)):=
   ⟨A,C,c,d,rl,by rw[copy_agg hsh.o hnr.o hno.o],hm.o.below m,fun h=>absurd h (by decide),m⟩
  have H:=κ a;have f:=κ f;clear a m;obtain⟨z0,z1,z2,z3,g0,g1,g2,g3⟩:=z4_of U.o
  go_wp2_with fail
  obtain⟨I,J,K,L⟩:=q4_of G;clear G;unfold st4 at I J K L H;exact bodyPost_ret (v:= .tuple #[.agg #[ι sh,ι ca,.slice A nr c,.slice C no d],ι 15]) (by simp[results,Tryz.results74,go_sem,I,J,K,L]) rfl (by rw[f.o];exact H.o)
 case pos=>
  have hP:=κ (placeF_t hp);obtain⟨O,P,hC,ah,aa⟩:=Ens.at V.o.o (by omega);have W:=aa (posE bk.op k) hp;rw[hP.o];obtain⟨i,F⟩:=ν (posE bk.op k);rw[←F]at W ⊢;rw[←F]at hp;have HI:=κ F;clear F hP aa;obtain⟨E,hE⟩:=ν (gE bk.op i);rw[←hE]at W;have HE:=κ hE;clear hE;obtain⟨ai,⟨ea,es,ex,eP,eQ,eN,eT⟩,eL,eS,eE⟩:=E;obtain⟨c0,c1,c2,c3,c4,c5,c6,c7,c8,c9,ab⟩:=W;simp only[]at c0 c1 c2 c3 c4 c5 c6 c7 c8 c9 ab;have ac:i<no:=by rw[hno.o];exact hp
  have aj:decide ((i:Int)<(no:Int))=true:=by simp;omega
  have ak:decide ((i:Int)<0)=false:=by simp only[decide_eq_false_iff_not];omega
  have ae:=hp;have ad:=κ ae;subst hC;by_cases h2:eS=2
  ·have t1:(eS==2)=true:=by simp[h2]
   have H2:=κ h2;clear h2;have G:Blk (st4 Y l (ι sh) (ι ca) (.slice A nr c) (.slice (some (α O P)) no d)) l 122 (vB sh ca A nr c (some (α O P)) no d):=st4_blk U.o;have m:Below w.heap.size w (st4 Y l (ι sh) (ι ca) (.slice A nr c) (.slice (some (α O P)) no d)):=st4_below r.o T.o
   have f:cancelF bk k=(bk,16):=by
    exact can_16 HI.o ad.o (congrArg En.st HE.o) H2.o
   have a:MadeRb rl bk 16 w (.returned (.tuple #[.agg (vB sh ca A nr c (some (α O P)) no d),ι 16])) (st4 Y l (ι sh) (ι ca) (.slice A nr c) (.slice (some (α O P)) no d)):=
    ⟨A,some ⟨O,P,none⟩,c,d,rl,by rw[copy_agg hsh.o hnr.o hno.o],hm.o.below m,fun h=>absurd h (by decide),m⟩
   have H:=κ a;have f:=κ f;clear a m;obtain⟨z0,z1,z2,z3,g0,g1,g2,g3⟩:=z4_of U.o
   go_wp2_with fail
   obtain⟨I,J,K,L⟩:=q4_of G;clear G;unfold st4 at I J K L H;exact bodyPost_ret (v:= .tuple #[.agg #[ι sh,ι ca,.slice A nr c,.slice (some (α O P)) no d],ι 16]) (by simp[results,Tryz.results74,go_sem,I,J,K,L]) rfl (by rw[f.o];exact H.o)
  ·have t1:(eS==2)=false:=by simp[h2]
   have H2:=κ h2;clear h2
   go_wp2_with fail
   refine(copied_any sh ca A (some (α O P)) nr no c d rl bk _ hsh hnr hno V l1 l2).mono ?_;rintro e w2 ⟨x,C',z,s,he,X,t⟩;rw[copy_agg hsh.o hnr.o hno.o]at he;subst he;obtain⟨g,af⟩:=Bko.own_at X.o (by rw[←hno.o];omega);subst af;have U3:=β w2 (.cells (vB sh ca x nr z (some (α g 0)) no s) 122);have V3:=κ (Blk.fresh w2 122 (vB sh ca x nr z (some (α g 0)) no s));have B3:=κ (CrdB.below_step (CrdB.below_step r.o t) U3);have K3:=κ (Blk.below' (Blk.below' K2.o t) U3);have R3:=κ (Blk.below' (Blk.below' U.o t) U3);have Q:=κ (Co_below (Co_mono X r.o.size) U3);have ag:Hid (w2.heap.size≠l):=by show _≠_;have:=(Blk.below' U.o t).lt;omega
   clear k0 k1 k2 k3 c0 c1 c2 c3 c4 c5 c6 c7 c8 c9 ab t X U3 V K2 U r
   go_upto_region 7 with fail
   generalize w2.alloc (.cells (vB sh ca x nr z (some (α g 0)) no s) 122)=w3 at V3 B3 K3 R3 Q ⊢;generalize w2.heap.size=gV at V3 ag ⊢;have RM:=own_room (show World.ownsRow w3 w.heap.size 125 11 (.slice (some (α g 0)) no s) no (ens bk.op) from by have h:=Q.o.o;rw[←hno.o]at h;exact h);have al:=RM.2.2.1;have x9:=RM.2.2.2.2.2 (i*11+9) _ (ens_get bk.op i 9 (by rw[←hno.o];exact ac) (by decide));have y9:=(RM.2.2.2.2.1 (i*11+9) (by omega)).2;clear RM;have B4:Hid (Below w.heap.size w (w3.setCell (α g (i*11+9)) (ι 2))):=B3.o.setCell (p:=(α g (i*11+9))) (show w.heap.size≤g from Tre.own_fresh Q.o.o (α g 0) rfl) _;have s4:=World.ownsRow.stored Q.o.o (i*11+9) (ι 2);have V4:=κ (blk_own_grown V3.o Q.o.o (by decide) s4.2);have R4:=κ (blk_own_grown R3.o Q.o.o (by decide) s4.2);have O4:=κ (Co_set Q.o _ _ _ (ens_setS _ _ (by rw[←hno.o];exact ac) _).symm (List.length_set) (fun j hj=>Rd.below' (hm.o.n j hj) B4.o B4.o.size));clear s4;obtain⟨v0,v1,v2,v3,_,_,_,_⟩:=z4_of V3.o
   go_upto_region 8 with fail
   clear v0 v1 v2 v3 x9 y9 V3 B3 R3 Q;generalize (w3.setCell (α g (i*11+9)) (ι 2))=w4 at B4 V4 R4 O4 ⊢;have G:Blk (st4 w4 l (ι sh) (ι ca) (.slice x nr z) (.slice (some (α g 0)) no s)) l 122 (vB sh ca x nr z (some (α g 0)) no s):=st4_blk R4.o;have m:Below w.heap.size w (st4 w4 l (ι sh) (ι ca) (.slice x nr z) (.slice (some (α g 0)) no s)):=st4_below B4.o T.o;have OF:=Co_st4 O4.o R4.o _ _ _ _ (fun j hj=>Rd.below' (hm.o.n j hj) m m.size)
   have a:MadeRb rl ⟨bk.sh,bk.ca,bk.rows,bk.op.set i (setS (gE bk.op i) 2)⟩ 0 w (.returned (.tuple #[.agg (vB sh ca x nr z (some (α g 0)) no s),ι 0])) (st4 w4 l (ι sh) (ι ca) (.slice x nr z) (.slice (some (α g 0)) no s)):=by
    refine⟨x,some (α g 0),z,s,rl,?_,Co_bm OF,fun _=>Co_nw OF,m⟩;unfold bkA;rw[←hnr.o,←hsh.o.1,←hsh.o.2];simp only[List.length_set,←hno.o]
   have f:cancelF bk k=(⟨bk.sh,bk.ca,bk.rows,bk.op.set i (setS (gE bk.op i) 2)⟩,0):=by
    exact can_ok HI.o ad.o (congrArg En.st HE.o) H2.o
   have H:=κ a;have f:=κ f;clear a m OF;obtain⟨v0,v1,v2,v3,_,_,_,_⟩:=z4_of V4.o;obtain⟨z0,z1,z2,z3,g0,g1,g2,g3⟩:=z4_of R4.o
   go_wp2_with fail
   obtain⟨I,J,K,L⟩:=q4_of G;clear G;unfold st4 at I J K L H;exact bodyPost_ret (v:= .tuple #[.agg #[ι sh,ι ca,.slice x nr z,.slice (some (α g 0)) no s],ι 0]) (by simp[results,Tryz.results74,go_sem,I,J,K,L]) rfl (by rw[f.o];exact H.o)
theorem rack_any(sh ca:Int)(A C:Option Addr)(nr no c d:Nat)(rl:List Rc)(bk:Bk)(k:Int)(w:World)(hsh:Hid (sh=bk.sh∧ca=bk.ca))(hnr:Hid (nr=bk.rows.length))(hno:Hid (no=bk.op.length))(hm:Hid (Bm w A C rl bk))(l1:nr≤1000)(l2:no≤1000)(hd:no≤d):
  Calls Tryz.prog 77 #[.agg #[.int .i64 sh,.int .i64 ca,.slice A nr c,.slice C no d],.int .i64 k] w (MadeRb rl (ackF bk k).1 (ackF bk k).2 w):=by
 have b0:=κ (γ w (.cells (vB sh ca A nr c C no d) 122) (.cells (vB 0 0 none 0 0 none 0 0) 122));have K0:=κ ((Blk.fresh w 122 (vB sh ca A nr c C no d)).alloc (.cells (vB 0 0 none 0 0 none 0 0) 122));have R0:=κ (δ (w.alloc (.cells (vB sh ca A nr c C no d) 122)) 122 (vB 0 0 none 0 0 none 0 0) (w.heap.size+1))
 go_enter Tryz.func77,Tryz.ntmps77
 go_upto_region 1 with fail
 obtain⟨gB,O⟩:=ν w.heap.size;obtain⟨g,P⟩:=ν (w.heap.size+1);have K1:=κ (ζ O K0.o);have R1:=κ (ζ P R0.o);have Q:Hid (w.heap.size≤g):=by show _≤_;omega
 simp only[←P];simp only[←O];clear O P K0 R0;generalize ((w.alloc (.cells (vB sh ca A nr c C no d) 122)).alloc (.cells (vB 0 0 none 0 0 none 0 0) 122))=w0 at b0 K1 R1 ⊢;have V:=κ (hm.o.below b0.o);obtain⟨k0,k1,k2,k3⟩:=q4_of K1.o
 go_wp2_with fail
 refine(at_any sh ca A C nr no c d bk.op k _ hno (κ V.o.o) (by omega)).mono ?_;rintro e U ⟨rfl,m⟩;have p:=κ (CrdB.below_step b0.o m);have K2:=κ (Blk.below' K1.o m);have W:=κ (Blk.below' R1.o m);have X:=κ (V.o.below m);clear k0 k1 k2 k3 m;obtain⟨k0,k1,k2,k3⟩:=q4_of K2.o;by_cases hp:posE bk.op k<bk.op.length
 case neg=>
  have hP:=κ (placeF_f hp);rw[hP.o];have z:Blk (st4 U g (ι sh) (ι ca) (.slice A nr c) (.slice C no d)) g 122 (vB sh ca A nr c C no d):=st4_blk W.o;have l:Below w.heap.size w (st4 U g (ι sh) (ι ca) (.slice A nr c) (.slice C no d)):=st4_below p.o Q.o
  have f:ackF bk k=(bk,15):=by
   exact ack_none hp
  have a:MadeRb rl bk 15 w (.returned (.tuple #[.agg (vB sh ca A nr c C no d),ι 15])) (st4 U g (ι sh) (ι ca) (.slice A nr c) (.slice C no d)):=
   ⟨A,C,c,d,rl,by rw[copy_agg hsh.o hnr.o hno.o],hm.o.below l,fun h=>absurd h (by decide),l⟩
  have F:=κ a;have f:=κ f;clear a l;obtain⟨z0,z1,z2,z3,g0,g1,g2,g3⟩:=z4_of W.o
  go_wp2_with fail
  obtain⟨G,H,I,J⟩:=q4_of z;clear z;unfold st4 at G H I J F;exact bodyPost_ret (v:= .tuple #[.agg #[ι sh,ι ca,.slice A nr c,.slice C no d],ι 15]) (by simp[results,Tryz.results77,go_sem,G,H,I,J]) rfl (by rw[f.o];exact F.o)
 case pos=>
  have hP:=κ (placeF_t hp);obtain⟨K,L,hC,ag,Y⟩:=Ens.at X.o.o (by omega);have R:=Y (posE bk.op k) hp;rw[hP.o];obtain⟨i,q⟩:=ν (posE bk.op k);rw[←q]at R ⊢;rw[←q]at hp;have HI:=κ q;clear q hP Y;obtain⟨E,hE⟩:=ν (gE bk.op i);rw[←hE]at R;have HE:=κ hE;clear hE;obtain⟨ah,⟨ea,es,ex,eP,eQ,eN,eT⟩,eL,eS,eE⟩:=E;obtain⟨c0,c1,c2,c3,c4,c5,c6,c7,c8,c9,Z⟩:=R;simp only[]at c0 c1 c2 c3 c4 c5 c6 c7 c8 c9 Z;have ae:i<no:=by rw[hno.o];exact hp
  have ai:decide ((i:Int)<(no:Int))=true:=by simp;omega
  have aj:decide ((i:Int)<0)=false:=by simp only[decide_eq_false_iff_not];omega
  have af:=hp;have aa:=κ af;subst hC;by_cases h2:eS=1
  ·have t1:(eS==1)=true:=by simp[h2]
   have H2:=κ h2;clear h2;have z:Blk (st4 U g (ι sh) (ι ca) (.slice A nr c) (.slice (some (α K L)) no d)) g 122 (vB sh ca A nr c (some (α K L)) no d):=st4_blk W.o;have l:Below w.heap.size w (st4 U g (ι sh) (ι ca) (.slice A nr c) (.slice (some (α K L)) no d)):=st4_below p.o Q.o
   have f:ackF bk k=(bk,16):=by
    exact ack_16 HI.o aa.o (congrArg En.st HE.o) H2.o
   have a:MadeRb rl bk 16 w (.returned (.tuple #[.agg (vB sh ca A nr c (some (α K L)) no d),ι 16])) (st4 U g (ι sh) (ι ca) (.slice A nr c) (.slice (some (α K L)) no d)):=
    ⟨A,some ⟨K,L,none⟩,c,d,rl,by rw[copy_agg hsh.o hnr.o hno.o],hm.o.below l,fun h=>absurd h (by decide),l⟩
   have F:=κ a;have f:=κ f;clear a l;obtain⟨z0,z1,z2,z3,g0,g1,g2,g3⟩:=z4_of W.o
   go_wp2_with fail
   obtain⟨G,H,I,J⟩:=q4_of z;clear z;unfold st4 at G H I J F;exact bodyPost_ret (v:= .tuple #[.agg #[ι sh,ι ca,.slice A nr c,.slice (some (α K L)) no d],ι 16]) (by simp[results,Tryz.results77,go_sem,G,H,I,J]) rfl (by rw[f.o];exact F.o)
  ·have t1:(eS==1)=false:=by simp[h2]
   have H2:=κ h2;clear h2;obtain⟨S,ab⟩:=ν ((delE bk.op i).length);have ac:=κ ab;clear ab
   go_wp2_with fail
   refine(closed_any sh ca A (some (α K L)) nr no c d rl bk i _ hsh hnr hno X l1 l2 hd ae).mono ?_;rintro e w2 ⟨r,s,t,x,he,ad,T⟩;rw[show bkA r s t x ⟨bk.sh,bk.ca,bk.rows,delE bk.op i⟩= .agg #[.int .i64 sh,.int .i64 ca,.slice r nr t,.slice s S x] from by unfold bkA;rw[hnr.o,hsh.o.1,hsh.o.2,ac.o]]at he;subst he;have B2:=κ (CrdB.below_step p.o T);have R3:=κ (Blk.below' W.o T);have O2:=κ (Co_mono ad p.o.size);clear T ad k0 k1 k2 k3 c0 c1 c2 c3 c4 c5 c6 c7 c8 c9 Z;have z:Blk (st4 w2 g (ι sh) (ι ca) (.slice r nr t) (.slice s S x)) g 122 (vB sh ca r nr t s S x):=st4_blk R3.o;have l:Below w.heap.size w (st4 w2 g (ι sh) (ι ca) (.slice r nr t) (.slice s S x)):=st4_below B2.o Q.o;have OF:=Co_st4 O2.o R3.o _ _ _ _ (fun j hj=>Rd.below' (hm.o.n j hj) l l.size)
   have a:MadeRb rl ⟨bk.sh,bk.ca,bk.rows,delE bk.op i⟩ 0 w (.returned (.tuple #[.agg (vB sh ca r nr t s S x),ι 0])) (st4 w2 g (ι sh) (ι ca) (.slice r nr t) (.slice s S x)):=by
    refine⟨r,s,t,x,rl,?_,Co_bm OF,fun _=>Co_nw OF,l⟩;unfold bkA;rw[←hnr.o,←hsh.o.1,←hsh.o.2];simp only[←ac.o]
   have f:=ack_ok' HI.o aa.o (congrArg En.st HE.o) H2.o;have F:=κ a;have f:=κ f;clear a l OF;obtain⟨z0,z1,z2,z3,g0,g1,g2,g3⟩:=z4_of R3.o
   go_wp2_with fail
   obtain⟨G,H,I,J⟩:=q4_of z;clear z;unfold st4 at G H I J F;exact bodyPost_ret (v:= .tuple #[.agg #[ι sh,ι ca,.slice r nr t,.slice s S x],ι 0]) (by simp[results,Tryz.results77,go_sem,G,H,I,J]) rfl (by rw[f.o];exact F.o)
theorem rfill_any(sh ca:Int)(A C:Option Addr)(nr no c d:Nat)(rl:List Rc)(bk:Bk)(k y:Int)(w:World)(hsh:Hid (sh=bk.sh∧ca=bk.ca))(hnr:Hid (nr=bk.rows.length))(hno:Hid (no=bk.op.length))(hm:Hid (Bm w A C rl bk))(l1:nr≤1000)(l2:no≤1000)(hd:no≤d)(hlf:Hid (∀i,i<bk.op.length→inI (gE bk.op i).lf))(hy9:y≤9223372036854775807):
  Calls Tryz.prog 75 #[.agg #[.int .i64 sh,.int .i64 ca,.slice A nr c,.slice C no d],.int .i64 k,.int .i64 y] w (MadeRb rl (fillF bk k y).1 (fillF bk k y).2 w):=by
 have b0:=κ (γ w (.cells (vB sh ca A nr c C no d) 122) (.cells (vB 0 0 none 0 0 none 0 0) 122));have K0:=κ ((Blk.fresh w 122 (vB sh ca A nr c C no d)).alloc (.cells (vB 0 0 none 0 0 none 0 0) 122));have R0:=κ (δ (w.alloc (.cells (vB sh ca A nr c C no d) 122)) 122 (vB 0 0 none 0 0 none 0 0) (w.heap.size+1))
 go_enter Tryz.func75,Tryz.ntmps75
 go_upto_region 1 with fail
 obtain⟨gB,ab⟩:=ν w.heap.size;obtain⟨g,ac⟩:=ν (w.heap.size+1);have K1:=κ (ζ ab K0.o);have R1:=κ (ζ ac R0.o);have Q:Hid (w.heap.size≤g):=by show _≤_;omega
 simp only[←ac];simp only[←ab];clear ab ac K0 R0;generalize ((w.alloc (.cells (vB sh ca A nr c C no d) 122)).alloc (.cells (vB 0 0 none 0 0 none 0 0) 122))=w0 at b0 K1 R1 ⊢;have aj:=κ (hm.o.below b0.o);obtain⟨k0,k1,k2,k3⟩:=q4_of K1.o;by_cases hy:y<1
 case pos=>
  have t0:decide (y<1)=true:=by simp[hy]
  have G:Blk (st4 w0 g (ι sh) (ι ca) (.slice A nr c) (.slice C no d)) g 122 (vB sh ca A nr c C no d):=st4_blk R1.o;have m:Below w.heap.size w (st4 w0 g (ι sh) (ι ca) (.slice A nr c) (.slice C no d)):=st4_below b0.o Q.o
  have f:fillF bk k y=(bk,1):=by
   exact fil_1 hy
  have a:MadeRb rl bk 1 w (.returned (.tuple #[.agg (vB sh ca A nr c C no d),ι 1])) (st4 w0 g (ι sh) (ι ca) (.slice A nr c) (.slice C no d)):=
   ⟨A,C,c,d,rl,by rw[copy_agg hsh.o hnr.o hno.o],hm.o.below m,fun h=>absurd h (by decide),m⟩
  have H:=κ a;have f:=κ f;clear a m;obtain⟨z0,z1,z2,z3,g0,g1,g2,g3⟩:=z4_of R1.o
  go_wp2_with fail
  obtain⟨I,J,K,L⟩:=q4_of G;clear G;unfold st4 at I J K L H;exact bodyPost_ret (v:= .tuple #[.agg #[ι sh,ι ca,.slice A nr c,.slice C no d],ι 1]) (by simp[results,Tryz.results75,go_sem,I,J,K,L]) rfl (by rw[f.o];exact H.o)
 have ty:decide (y<1)=false:=by simp[hy]
 go_wp2_with fail
 refine(at_any sh ca A C nr no c d bk.op k _ hno (κ aj.o.o) (by omega)).mono ?_;rintro e w1 ⟨rfl,R⟩;have F:=κ (CrdB.below_step b0.o R);have K2:=κ (Blk.below' K1.o R);have R2:=κ (Blk.below' R1.o R);have V:=κ (aj.o.below R);clear k0 k1 k2 k3 R;obtain⟨k0,k1,k2,k3⟩:=q4_of K2.o;by_cases hp:posE bk.op k<bk.op.length
 case neg=>
  have hP:=κ (placeF_f hp);rw[hP.o];have G:Blk (st4 w1 g (ι sh) (ι ca) (.slice A nr c) (.slice C no d)) g 122 (vB sh ca A nr c C no d):=st4_blk R2.o;have m:Below w.heap.size w (st4 w1 g (ι sh) (ι ca) (.slice A nr c) (.slice C no d)):=st4_below F.o Q.o
  have f:fillF bk k y=(bk,15):=by
   exact fil_none (by omega) hp
  have a:MadeRb rl bk 15 w (.returned (.tuple #[.agg (vB sh ca A nr c C no d),ι 15])) (st4 w1 g (ι sh) (ι ca) (.slice A nr c) (.slice C no d)):=
   ⟨A,C,c,d,rl,by rw[copy_agg hsh.o hnr.o hno.o],hm.o.below m,fun h=>absurd h (by decide),m⟩
  have H:=κ a;have f:=κ f;clear a m;obtain⟨z0,z1,z2,z3,g0,g1,g2,g3⟩:=z4_of R2.o
  go_wp2_with fail
  obtain⟨I,J,K,L⟩:=q4_of G;clear G;unfold st4 at I J K L H;exact bodyPost_ret (v:= .tuple #[.agg #[ι sh,ι ca,.slice A nr c,.slice C no d],ι 15]) (by simp[results,Tryz.results75,go_sem,I,J,K,L]) rfl (by rw[f.o];exact H.o)
 case pos=>
  have hP:=κ (placeF_t hp);obtain⟨W,X,hC,au,ak⟩:=Ens.at V.o.o (by omega);have ad:=ak (posE bk.op k) hp;rw[hP.o];obtain⟨i,Y⟩:=ν (posE bk.op k);rw[←Y]at ad ⊢;rw[←Y]at hp;have HI:=κ Y;clear Y hP ak;obtain⟨E,hE⟩:=ν (gE bk.op i);rw[←hE]at ad;have HE:=κ hE;clear hE;obtain⟨av,⟨ea,es,ex,eP,eQ,eN,eT⟩,q,eS,eE⟩:=E;obtain⟨c0,c1,c2,c3,c4,c5,c6,c7,c8,c9,ae⟩:=ad;simp only[]at c0 c1 c2 c3 c4 c5 c6 c7 c8 c9 ae;have af:i<no:=by rw[hno.o];exact hp
  have aw:decide ((i:Int)<(no:Int))=true:=by simp;omega
  have ax:decide ((i:Int)<0)=false:=by simp only[decide_eq_false_iff_not];omega
  have al:=hp;have ag:=κ al;subst hC;have ap:inI q:=by have h:=hlf.o i al;rw[←HE.o]at h;exact h
  by_cases h2:q<y
  ·have t1:decide (q<y)=true:=by simp[h2]
   have H2:=κ h2;clear h2;have G:Blk (st4 w1 g (ι sh) (ι ca) (.slice A nr c) (.slice (some (α W X)) no d)) g 122 (vB sh ca A nr c (some (α W X)) no d):=st4_blk R2.o;have m:Below w.heap.size w (st4 w1 g (ι sh) (ι ca) (.slice A nr c) (.slice (some (α W X)) no d)):=st4_below F.o Q.o
   have f:fillF bk k y=(bk,17):=by
    exact fil_17 (by omega) HI.o ag.o (congrArg En.lf HE.o) H2.o
   have a:MadeRb rl bk 17 w (.returned (.tuple #[.agg (vB sh ca A nr c (some (α W X)) no d),ι 17])) (st4 w1 g (ι sh) (ι ca) (.slice A nr c) (.slice (some (α W X)) no d)):=
    ⟨A,some ⟨W,X,none⟩,c,d,rl,by rw[copy_agg hsh.o hnr.o hno.o],hm.o.below m,fun h=>absurd h (by decide),m⟩
   have H:=κ a;have f:=κ f;clear a m;obtain⟨z0,z1,z2,z3,g0,g1,g2,g3⟩:=z4_of R2.o
   go_wp2_with fail
   obtain⟨I,J,K,L⟩:=q4_of G;clear G;unfold st4 at I J K L H;exact bodyPost_ret (v:= .tuple #[.agg #[ι sh,ι ca,.slice A nr c,.slice (some (α W X)) no d],ι 17]) (by simp[results,Tryz.results75,go_sem,I,J,K,L]) rfl (by rw[f.o];exact H.o)
  ·have t1:decide (q<y)=false:=by simp only[decide_eq_false_iff_not];exact h2
   by_cases h3:y=q
   ·have t2:(y==q)=true:=by simp[h3]
    have S:Hid (¬q<y∧y=q):=⟨h2,h3⟩;clear h2 h3;obtain⟨n7,am⟩:=ν ((delE bk.op i).length);have an:=κ am;clear am
    go_wp2_with fail
    refine(closed_any sh ca A (some (α W X)) nr no c d rl bk i _ hsh hnr hno V l1 l2 hd af).mono ?_;rintro e Z ⟨r,U,s,l,he,P,t⟩;rw[show bkA r U s l ⟨bk.sh,bk.ca,bk.rows,delE bk.op i⟩= .agg #[.int .i64 sh,.int .i64 ca,.slice r nr s,.slice U n7 l] from by unfold bkA;rw[hnr.o,hsh.o.1,hsh.o.2,an.o]]at he;subst he;have B2:=κ (CrdB.below_step F.o t);have R3:=κ (Blk.below' R2.o t);have O2:=κ (Co_mono P F.o.size);clear t P k0 k1 k2 k3 c0 c1 c2 c3 c4 c5 c6 c7 c8 c9 ae;have G:Blk (st4 Z g (ι sh) (ι ca) (.slice r nr s) (.slice U n7 l)) g 122 (vB sh ca r nr s U n7 l):=st4_blk R3.o;have m:Below w.heap.size w (st4 Z g (ι sh) (ι ca) (.slice r nr s) (.slice U n7 l)):=st4_below B2.o Q.o;have OF:=Co_st4 O2.o R3.o _ _ _ _ (fun j hj=>Rd.below' (hm.o.n j hj) m m.size)
    have a:MadeRb rl ⟨bk.sh,bk.ca,bk.rows,delE bk.op i⟩ 0 w (.returned (.tuple #[.agg (vB sh ca r nr s U n7 l),ι 0])) (st4 Z g (ι sh) (ι ca) (.slice r nr s) (.slice U n7 l)):=by
     refine⟨r,U,s,l,rl,?_,Co_bm OF,fun _=>Co_nw OF,m⟩;unfold bkA;rw[←hnr.o,←hsh.o.1,←hsh.o.2];simp only[←an.o]
    have f:=fil_all (by omega) HI.o ag.o (lf:=q) (congrArg En.lf HE.o) (by have h9:=S.o.1;omega) S.o.2;have H:=κ a;have f:=κ f;clear a m OF;obtain⟨z0,z1,z2,z3,g0,g1,g2,g3⟩:=z4_of R3.o
    go_wp2_with fail
    obtain⟨I,J,K,L⟩:=q4_of G;clear G;unfold st4 at I J K L H;exact bodyPost_ret (v:= .tuple #[.agg #[ι sh,ι ca,.slice r nr s,.slice U n7 l],ι 0]) (by simp[results,Tryz.results75,go_sem,I,J,K,L]) rfl (by rw[f.o];exact H.o)
   ·have t2:(y==q)=false:=by simp[h3]
    have S:Hid (¬q<y∧ ¬y=q):=⟨h2,h3⟩
    have ew:IntKind.i64.wrap (q-y)=q-y:=by
     rw[IntKind.wrap_i64];obtain⟨h8,h9⟩:=ap;omega
    clear h2 h3
    go_wp2_with fail
    refine(copied_any sh ca A (some (α W X)) nr no c d rl bk _ hsh hnr hno V l1 l2).mono ?_;rintro e Z ⟨r,U,s,l,he,P,t⟩;rw[copy_agg hsh.o hnr.o hno.o]at he;subst he;obtain⟨x,aq⟩:=Bko.own_at P.o (by rw[←hno.o];omega);subst aq;have U3:=β Z (.cells (vB sh ca r nr s (some (α x 0)) no l) 122);have V3:=κ (Blk.fresh Z 122 (vB sh ca r nr s (some (α x 0)) no l));have B3:=κ (CrdB.below_step (CrdB.below_step F.o t) U3);have K3:=κ (Blk.below' (Blk.below' K2.o t) U3);have R3:=κ (Blk.below' (Blk.below' R2.o t) U3);have O3:=κ (Co_below (Co_mono P F.o.size) U3);have ar:Hid (Z.heap.size≠g):=by show _≠_;have:=(Blk.below' R2.o t).lt;omega
    clear k0 k1 k2 k3 c0 c1 c2 c3 c4 c5 c6 c7 c8 c9 ae t P U3 V K2 R2 F
    go_upto_region 11 with fail
    generalize Z.alloc (.cells (vB sh ca r nr s (some (α x 0)) no l) 122)=w3 at V3 B3 K3 R3 O3 ⊢;generalize Z.heap.size=gV at V3 ar ⊢;have aa:=κ (ε V3.o);have ah:=κ (Below.drew B3.o);have ai:=κ (ε R3.o);have z:=κ (Co_below O3.o (Below.drew ψ));clear V3 B3 R3 O3 K3;refine wp_region_noPanic ?_;let ao:World→Prop:=fun w'=>w'.cell? (α gV 3)=some (.slice (some (α x 0)) no l)∧w'.cell? (α x (i*11+8))=some (ι q)
    refine wp_region_L (T:=ao) (st:=[13]) (by kernel_rfl) ?_;generalize w3.drew=wd at aa ah ai z ⊢;have RM:=own_room (show World.ownsRow wd w.heap.size 125 11 (.slice (some (α x 0)) no l) no (ens bk.op) from by have h:=z.o.o;rw[←hno.o]at h;exact h);have ay:=RM.2.2.1;have x9:=RM.2.2.2.2.2 (i*11+8) _ (ens_get bk.op i 8 (by rw[←hno.o];exact af) (by decide));have y9:=(RM.2.2.2.2.1 (i*11+8) (by omega)).2;clear RM;have B4:Hid (Below w.heap.size w (wd.setCell (α x (i*11+8)) (ι (q-y)))):=ah.o.setCell (p:=(α x (i*11+8))) (show w.heap.size≤x from Tre.own_fresh z.o.o (α x 0) rfl) _;have s4:=World.ownsRow.stored z.o.o (i*11+8) (ι (q-y));have V4:=κ (blk_own_grown aa.o z.o.o (by decide) s4.2);have R4:=κ (blk_own_grown ai.o z.o.o (by decide) s4.2);have O4:=κ (Co_set z.o _ _ _ (ens_setL _ _ (by rw[←hno.o];exact af) _).symm (List.length_set) (fun j hj=>Rd.below' (hm.o.n j hj) B4.o B4.o.size));clear s4;rw[←HE.o]at x9;have O:Hid (ao wd):=⟨aa.o.cell 3,x9⟩;refine jA 0 O.o ?_;refine jB 1 O.o ?_;refine jA 2 O.o ?_;refine jA 3 O.o ?_;refine jB 4 O.o ?_;refine jA 5 O.o ?_;refine jA 6 O.o ?_;refine jA 7 O.o ?_;refine jB 8 O.o ?_;refine jA 9 O.o ?_;refine jA 10 O.o ?_;refine jA 11 O.o ?_;refine jA 12 O.o ?_;refine jV 13 fun K' hK=>?_
    go_simp;refine hK.out _ _ ?_;clear hK K';refine jP ?_;refine Δ ?_
    go_upto_region 12 with fail
    clear x9 y9 aa ah ai z O;generalize (wd.setCell (α x (i*11+8)) (ι (q-y)))=w4 at B4 V4 R4 O4 ⊢;have G:Blk (st4 w4 g (ι sh) (ι ca) (.slice r nr s) (.slice (some (α x 0)) no l)) g 122 (vB sh ca r nr s (some (α x 0)) no l):=st4_blk R4.o;have m:Below w.heap.size w (st4 w4 g (ι sh) (ι ca) (.slice r nr s) (.slice (some (α x 0)) no l)):=st4_below B4.o Q.o;have OF:=Co_st4 O4.o R4.o _ _ _ _ (fun j hj=>Rd.below' (hm.o.n j hj) m m.size)
    have a:MadeRb rl ⟨bk.sh,bk.ca,bk.rows,bk.op.set i (setL (gE bk.op i) (q-y))⟩ 0 w (.returned (.tuple #[.agg (vB sh ca r nr s (some (α x 0)) no l),ι 0])) (st4 w4 g (ι sh) (ι ca) (.slice r nr s) (.slice (some (α x 0)) no l)):=by
     refine⟨r,some (α x 0),s,l,rl,?_,Co_bm OF,fun _=>Co_nw OF,m⟩;unfold bkA;rw[←hnr.o,←hsh.o.1,←hsh.o.2];simp only[List.length_set,←hno.o]
    have f:fillF bk k y=(⟨bk.sh,bk.ca,bk.rows,bk.op.set i (setL (gE bk.op i) (q-y))⟩,0):=by
     exact fil_part (by omega) HI.o ag.o (lf:=q) (congrArg En.lf HE.o) (by have h9:=S.o.1;omega) S.o.2
    have H:=κ a;have f:=κ f;clear a m OF;obtain⟨v0,v1,v2,v3,_,_,_,_⟩:=z4_of V4.o;obtain⟨z0,z1,z2,z3,g0,g1,g2,g3⟩:=z4_of R4.o
    go_wp2_with fail
    obtain⟨I,J,K,L⟩:=q4_of G;clear G;unfold st4 at I J K L H;exact bodyPost_ret (v:= .tuple #[.agg #[ι sh,ι ca,.slice r nr s,.slice (some (α x 0)) no l],ι 0]) (by simp[results,Tryz.results75,go_sem,I,J,K,L]) rfl (by rw[f.o];exact H.o)
end Rbe
namespace Rbf
open Bkj Rbe
open Bkw hiding infoN
def MadeBg(n:Nat)(sh:Int)(w:World)(e:Ending)(w':World):Prop:=
 e= .returned (bkA (some ⟨w.heap.size+1+1,0,none⟩) none n 0 (beginF n sh))∧Bm w' (some ⟨w.heap.size+1+1,0,none⟩) none (List.replicate n rc0) (beginF n sh)∧Below w.heap.size w w'
variable {ca sh:Int} {op:List En} {ids:List Int} {rl:List Rc} {c ci d gV gZ ni no nr:Nat} {A Ai C:Option Addr} {w w' w0:World}
theorem rbegin7_any(sk wi ra ta:Int)(A1 A2 A3:Option Addr)(n1 n2 n3 c1 c2 c3:Nat)(sh:Int)(w:World)(hmax:n2≤1000):
  Calls Tryz.prog 40 #[.agg #[.int .i64 sk,.int .i64 wi,.int .i64 ra,.int .i64 ta,.slice A1 n1 c1,.slice A2 n2 c2,.slice A3 n3 c3],.int .i64 sh] w (MadeBg n2 sh w):=by
 obtain⟨l,f,g,h,j⟩:=info_parts infoRR;have a:=fun(W:World)=>run_make (P:=Tryz.prog) W 119 215 l _ Tryz.underlying119 f g .i64 .i64 (n2:Int) (n2:Int) (by omega) (by omega) (by rw[j];omega) (by omega)
 simp only[Int.toNat_natCast,h]at a;have k: ∀W:World,(Instr.makeSlice 119 (ι (n2:Int)) (ι (n2:Int))).run Tryz.prog W= .ok (.slice (some (α W.heap.size 0)) n2 n2) (W.alloc (.cells (madeCells zRow (n2*3)) 215)):=fun W=>by first|exact a W|simpa[zRow] using a W
 have m:Hid (Below w.heap.size w (((w.alloc (.cells (vC sk wi ra ta A1 n1 c1 A2 n2 c2 A3 n3 c3) 31)).alloc (.cells (vB sh 0 (some (α (w.heap.size+1+1) 0)) n2 n2 none 0 0) 122)).alloc (.cells (madeCells zRow (n2*3)) 215))):=((ψ.alloc τ _).alloc (by simp) _).alloc (by simp<;>omega) _;have n:Hid (Blk (((w.alloc (.cells (vC sk wi ra ta A1 n1 c1 A2 n2 c2 A3 n3 c3) 31)).alloc (.cells (vB sh 0 (some (α (w.heap.size+1+1) 0)) n2 n2 none 0 0) 122)).alloc (.cells (madeCells zRow (n2*3)) 215)) (w.heap.size+1) 122 (vB sh 0 (some (α (w.heap.size+1+1) 0)) n2 n2 none 0 0)):=Blk.alloc (blk_hd (by simp)) _;have o:=κ (δ ((w.alloc (.cells (vC sk wi ra ta A1 n1 c1 A2 n2 c2 A3 n3 c3) 31)).alloc (.cells (vB sh 0 (some (α (w.heap.size+1+1) 0)) n2 n2 none 0 0) 122)) 215 (madeCells zRow (n2*3)) (w.heap.size+1+1));clear a
 go_enter Tryz.func40,Tryz.ntmps40
 go_wp2_with fail
 obtain⟨p,q,r,s⟩:=q4_of n.o
 have b:MadeBg n2 sh w (.returned (.agg (vB sh 0 (some (α (w.heap.size+1+1) 0)) n2 n2 none 0 0))) (((w.alloc (.cells (vC sk wi ra ta A1 n1 c1 A2 n2 c2 A3 n3 c3) 31)).alloc (.cells (vB sh 0 (some (α (w.heap.size+1+1) 0)) n2 n2 none 0 0) 122)).alloc (.cells (madeCells zRow (n2*3)) 215)):=by
  refine⟨?_,⟨o.o.rd' (made_rows n2),?_,?_,.inl rfl⟩,m.o⟩
  ·simp[bkA,beginF]
  ·simp[beginF,rc0]
  ·intro i f
   have e:gC (List.replicate n2 rc0) i=rc0:=by
    rw[List.length_replicate]at f;simp[gC,f]
   rw[e];exact .inl rfl
 exact bodyPost_ret (v:= .agg #[ι sh,ι 0,.slice (some (α (w.heap.size+1+1) 0)) n2 n2,.slice none 0 0]) (by simp[results,Tryz.results40,go_sem,p,q,r,s]) rfl b
theorem infoN:(Tryz.prog.info? 3).map (fun i=>(i.zero,i.size,i.bytes))=some (some (.int .i64 0),1,8):=by kernel_rfl
structure Sr(w0 w:World)(gV gZ:Nat)(sh ca:Int)(A C:Option Addr)(nr c no d:Nat)(rl:List Rc)(op:List En)(Ai:Option Addr)(ni ci:Nat)(ids:List Int):Prop where
 kV:Blk w gV 122 #[.int .i64 sh,.int .i64 ca,.slice A nr c,.slice C no d]
 kZ:Blk w gZ 122 #[.int .i64 0,.int .i64 0,.slice none 0 0,.slice none 0 0]
 r:w.ownsRow w0.heap.size 215 3 (.slice A nr c) nr (rcs rl)
 o:w.ownsRow w0.heap.size 125 11 (.slice C no d) no (ens op)
 ids:w.ownsRow w0.heap.size 3 1 (.slice Ai ni ci) ni (ints ids)
 b:Below w0.heap.size w0 w
theorem Sr_below(h:Sr w0 w gV gZ sh ca A C nr c no d rl op Ai ni ci ids)(hb:Below w.heap.size w w'):Sr w0 w' gV gZ sh ca A C nr c no d rl op Ai ni ci ids:=
 ⟨Blk.below' h.kV hb,Blk.below' h.kZ hb,own_below h.r hb,own_below h.o hb,own_below h.ids hb,CrdB.below_step h.b hb⟩
theorem Sr_set{go:Nat}(h:Sr w0 w gV gZ sh ca A (some ⟨go,0,none⟩) nr c no d rl op Ai ni ci ids)(i:Nat)(hi:i<op.length):
  Sr w0 (w.setCell ⟨go,i*11+9,none⟩ (.int .i64 2)) gV gZ sh ca A (some ⟨go,0,none⟩) nr c no d rl (op.set i (setS (gE op i) 2)) Ai ni ci ids:=by
 obtain⟨e,a⟩:=World.ownsRow.stored h.o (i*11+9) (.int .i64 2);exact⟨blk_own_grown h.kV h.o (by decide) a,blk_own_grown h.kZ h.o (by decide) a,Apt.own_grown h.r h.o (by decide) a,by rw[ens_setS _ _ hi _];exact e,Apt.own_grown h.ids h.o (by decide) a,h.b.setCell (p:=(α go (i*11+9))) (show w0.heap.size≤go from Tre.own_fresh h.o (α go 0) rfl) _⟩
theorem Sr_app(h:Sr w0 w gV gZ sh ca A C nr c no d rl op Ai ni ci ids){A':Option Addr}{n' c':Nat}{x:Int}
  (ho:w'.ownsRow w0.heap.size 3 1 (.slice A' n' c') n' (ints ids++[.int .i64 x]))(hg:w.grownBy w' (Value.slice Ai ni ci).ownBlock):Sr w0 w' gV gZ sh ca A C nr c no d rl op A' n' c' (ids++[x]):=
 ⟨blk_own_grown h.kV h.ids (by decide) hg,blk_own_grown h.kZ h.ids (by decide) hg,Apt.own_grown h.r h.ids (by decide) hg,Apt.own_grown h.o h.ids (by decide) hg,by rw[ints_snoc];exact ho,grown_below h.b h.ids hg τ h.b.size⟩
def MadeRs(rl:List Rc)(b:Bk)(ids:List Int)(w:World)(e:Ending)(w':World):Prop:=
 ∃A C c d Ai ci,e= .returned (.tuple #[bkA A C c d b,.slice Ai ids.length ci])∧Bm w' A C rl b∧Nw w.heap.size rl A C rl∧b.op.length≤d∧Ris w' w'.heap.size Ai ids∧(∀a,Ai=some a→w.heap.size≤a.block)∧Below w.heap.size w w'
theorem rsweep_any(sh ca:Int)(A C:Option Addr)(nr no c d:Nat)(rl:List Rc)(bk:Bk)(ep:Int)(w:World)(hsh:Hid (sh=bk.sh∧ca=bk.ca))(hnr:Hid (nr=bk.rows.length))(hno:Hid (no=bk.op.length))(hm:Hid (Bm w A C rl bk))(l1:nr≤1000)(l2:no≤1000):
  Calls Tryz.prog 65 #[.agg #[.int .i64 sh,.int .i64 ca,.slice A nr c,.slice C no d],.int .i64 ep] w (MadeRs rl (sweepF bk ep) (swI ep bk.op) w):=by
 obtain⟨i0,hi,ae,af,ag⟩:=info_parts infoN;have b0:=κ (γ w (.cells (vB sh ca A nr c C no d) 122) (.cells (vB 0 0 none 0 0 none 0 0) 122));have K0:=κ ((Blk.fresh w 122 (vB sh ca A nr c C no d)).alloc (.cells (vB 0 0 none 0 0 none 0 0) 122));have R0:=κ (δ (w.alloc (.cells (vB sh ca A nr c C no d) 122)) 122 (vB 0 0 none 0 0 none 0 0) (w.heap.size+1))
 go_enter Tryz.func65,Tryz.ntmps65
 go_upto_region 1 with fail
 obtain⟨gB,R⟩:=ν w.heap.size;obtain⟨gZ,S⟩:=ν (w.heap.size+1);have K1:=κ (ζ R K0.o);have R1:=κ (ζ S R0.o);have ah:Hid (w.heap.size≤gZ):=by show _≤_;omega
 simp only[←S];simp only[←R];clear R S K0 R0;generalize ((w.alloc (.cells (vB sh ca A nr c C no d) 122)).alloc (.cells (vB 0 0 none 0 0 none 0 0) 122))=w0 at b0 K1 R1 ⊢;have aa:=κ (hm.o.below b0.o);obtain⟨k0,k1,k2,k3⟩:=q4_of K1.o
 go_wp2_with fail
 refine(copied_any sh ca A C nr no c d rl bk _ hsh hnr hno aa l1 l2).mono ?_;rintro e w2 ⟨p,t,q,l,he,ab,T⟩;rw[copy_agg hsh.o hnr.o hno.o]at he;subst he;have U3:=β w2 (.cells (vB sh ca p nr q t no l) 122);have U:=κ (Blk.fresh w2 122 (vB sh ca p nr q t no l));have B3:=κ (CrdB.below_step (CrdB.below_step b0.o T) U3);have R3:=κ (Blk.below' (Blk.below' R1.o T) U3);have O3:=κ (Co_below (Co_mono ab b0.o.size) U3);clear k0 k1 k2 k3 T ab U3 b0 K1 R1 aa
 go_upto_region 2 with fail
 generalize w2.alloc (.cells (vB sh ca p nr q t no l) 122)=w3 at U B3 R3 O3 ⊢;generalize w2.heap.size=gV at U ⊢;have ac:Hid (Sr w w3 gV gZ sh ca p t nr q no l rl (swO ep bk.op 0) none 0 0 (swI ep (bk.op.take 0))):=⟨U.o,R3.o,by have h:=O3.o.r;rw[←hnr.o]at h;exact h,by have h:=O3.o.o;rw[←hno.o]at h;exact h,World.ownsRow_nil _ _ _ _,B3.o⟩;clear U B3 R3 O3
 go_wp2_with fail
 go_loopg [7,8] no (fun g s7 s8 w'=> ∃(i:Nat) (Ai:Option Addr) (ni ci:Nat),i+g=no∧s7= .slice Ai ni ci∧s8= ι i∧Hid (ni=(swI ep (bk.op.take i)).length)∧Hid (Sr w w' gV gZ sh ca p t nr q no l rl (swO ep bk.op i) Ai ni ci (swI ep (bk.op.take i))))
 case atStart=>exact⟨0,none,0,0,by omega,rfl,rfl,rfl,ac⟩
 case round=>
  clear ac;obtain⟨i,Ai,ni,ci,am,rfl,rfl,y,m⟩:=hrel;obtain⟨v0,v1,v2,v3⟩:=q4_of m.o.kV;by_cases hlt:i<no
  ·obtain⟨g,rfl⟩: ∃g,gk=g+1:=⟨gk-1,by omega⟩;have t0:decide ((i:Int)<(no:Int))=true:=by simp;omega
   have s:i<bk.op.length:=by rw[←hno.o];exact hlt
   have an:(swO ep bk.op i).length=bk.op.length:=swO_len _ _ _;obtain⟨X,ai⟩:=Bko.own_at m.o.o (by omega);subst ai;obtain⟨_,_,ao,_,z,F⟩:=own_room m.o.o;have Y:=fun j (hj:j<11) v hv=>F (i*11+j) v ((ens_get (swO ep bk.op i) i j (by omega) hj).trans hv)
   rw[swO_get _ _ _ s]at Y;obtain⟨E,hE⟩:=ν (gE bk.op i);rw[←hE]at Y;have HE:=κ hE;clear hE;obtain⟨Z,⟨ea,es,ex,eP,eQ,eN,eT⟩,eL,st,J⟩:=E;have c0:=Y 0 (by decide) _ rfl;have c9:=Y 9 (by decide) _ rfl;have aj:=Y 10 (by decide) _ rfl;have f9:=(z (i*11+9) (by omega)).2;simp only[Nat.add_zero]at c0;clear Y F z;by_cases hst:st=1
   ·have t1:(st==1)=true:=by simp[hst]
    by_cases hep:J≤ep
    ·have t2:decide (J≤ep)=true:=by simp[hep]
     have G:swC ep (gE bk.op i)=true:=by rw[←HE.o];unfold swC;simp[hst,hep]
     have K:=κ (swO_yes ep bk.op i s G);have f:=κ (swI_succ ep bk.op i s);rw[G,if_pos rfl,←HE.o]at f;have ak:Hid ((⟨Z,⟨ea,es,ex,eP,eQ,eN,eT⟩,eL,st,J⟩:En).id=Z):=rfl;rw[ak.o]at f;have ap:ni≤1000:=by rw[y.o];have:=swI_le ep (bk.op.take i);rw[List.length_take]at this;omega
     clear hst G
     have S6:Hid (Sr w (wr.setCell (α X (i*11+9)) (ι 2)) gV gZ sh ca p (some (α X 0)) nr q no l rl (swO ep bk.op (i+1)) Ai ni ci (swI ep (bk.op.take i))):=by
      rw[K.o,←swO_get ep bk.op i s];exact Sr_set m.o i (by omega)
     have d0:=ω (α X (i*11+9)) (ι 2) c0
     go_upto_region 8 with fail
     clear v0 v1 v2 v3 c0 c9 aj f9 K m;generalize wr.setCell (α X (i*11+9)) (ι 2)=w6 at S6 d0 ⊢;obtain⟨v0,v1,v2,v3⟩:=q4_of S6.o.kV;obtain⟨V,L⟩:=ν (ni+1);have ad:=κ L;clear L;have V0:=κ (β w6 (.cells #[ι Z] 3));have V1:=κ (Sr_below S6.o V0.o);have V2:Hid (Rd (w6.alloc (.cells #[ι Z] 3)) (w6.alloc (.cells #[ι Z] 3)).heap.size (some (α w6.heap.size 0)) [ι Z]):=rd_new rfl;have U:=κ V1.o.b.size
     go_wp2_with (at_builtin;go_loud (refine wpList_appRG (nm:=V) (show Hid _ from V1.o.ids) V2 ad.o rfl _ _ _ rfl i0 (.int .i64 0) 8 Tryz.underlying23 hi ae af ag rfl (by decide) rfl rfl (by simp) (by simp[Value.oneCell']) (by unfold maxLen;omega) (by omega) U.o ?_);intro A6 c6 w7 H O)
     have S7:=κ (Sr_app V1.o H.o O);rw[←f.o]at S7;have I:Hid (V=(swI ep (bk.op.take (i+1))).length):=by show _=_;rw[f.o,List.length_append,ad.o,y.o];rfl
     clear O H V0 V1 V2 U v0 v1 v2 v3 S6 f d0
     go_roundg g
     case measure=>omega
     case rel=>exact⟨i+1,A6,V,c6,by omega,rfl,by rw[Int.natCast_add];rfl,I,S7⟩
    ·have t2:decide (J≤ep)=false:=by simp only[decide_eq_false_iff_not];exact hep
     have G:swC ep (gE bk.op i)=false:=by rw[←HE.o];unfold swC;simp[hep]
     have K:=κ (swO_no ep bk.op i s G);have f:=κ (swI_succ ep bk.op i s);rw[G,if_neg (by decide),List.append_nil]at f;have S7:Hid (Sr w wr gV gZ sh ca p (some (α X 0)) nr q no l rl (swO ep bk.op (i+1)) Ai ni ci (swI ep (bk.op.take (i+1)))):=by rw[K.o,f.o];exact m.o
     have I:Hid (ni=(swI ep (bk.op.take (i+1))).length):=by show _=_;rw[f.o];exact y.o
     clear G K f
     go_wp2_with fail
     go_roundg g
     case measure=>omega
     case rel=>exact⟨i+1,Ai,ni,ci,by omega,rfl,by rw[Int.natCast_add];rfl,I,S7⟩
   ·have t1:(st==1)=false:=by simp[hst]
    have G:swC ep (gE bk.op i)=false:=by rw[←HE.o];unfold swC;simp[hst]
    have K:=κ (swO_no ep bk.op i s G);have f:=κ (swI_succ ep bk.op i s);rw[G,if_neg (by decide),List.append_nil]at f;have S7:Hid (Sr w wr gV gZ sh ca p (some (α X 0)) nr q no l rl (swO ep bk.op (i+1)) Ai ni ci (swI ep (bk.op.take (i+1)))):=by rw[K.o,f.o];exact m.o
    have I:Hid (ni=(swI ep (bk.op.take (i+1))).length):=by show _=_;rw[f.o];exact y.o
    clear G K f
    go_wp2_with fail
    go_roundg g
    case measure=>omega
    case rel=>exact⟨i+1,Ai,ni,ci,by omega,rfl,by rw[Int.natCast_add];rfl,I,S7⟩
  ·have t0:decide ((i:Int)<(no:Int))=false:=by simp;omega
   have W:i=no:=by omega
   have al:Hid (swO ep bk.op i=bk.op.map (swE ep)):=by show _=_;rw[W,hno.o];exact swO_all _ _
   have P:Hid (swI ep (bk.op.take i)=swI ep bk.op):=by show _=_;rw[W,hno.o,List.take_length]
   have x:=m.o;rw[al.o,P.o]at x;rw[P.o]at y;have F3:Blk (st4 wr gZ (ι sh) (ι ca) (.slice p nr q) (.slice t no l)) gZ 122 (vB sh ca p nr q t no l):=st4_blk x.kZ;have BF:Below w.heap.size w (st4 wr gZ (ι sh) (ι ca) (.slice p nr q) (.slice t no l)):=st4_below x.b ah.o
   have Q:MadeRs rl (sweepF bk ep) (swI ep bk.op) w (.returned (.tuple #[.agg (vB sh ca p nr q t no l),.slice Ai ni ci])) (st4 wr gZ (ι sh) (ι ca) (.slice p nr q) (.slice t no l)):=by
    have r4:=own_st4 x.r x.kZ (by decide) (v0:= ι sh) (v1:= ι ca) (v2:= .slice p nr q) (v3:= .slice t no l);have o4:=own_st4 x.o x.kZ (by decide) (v0:= ι sh) (v1:= ι ca) (v2:= .slice p nr q) (v3:= .slice t no l);have i4:=own_st4 x.ids x.kZ (by decide) (v0:= ι sh) (v1:= ι ca) (v2:= .slice p nr q) (v3:= .slice t no l);refine⟨p,t,q,l,Ai,ci,?_,⟨Rd.of_own r4,hm.o.e,fun k hk=>Rd.below' (hm.o.n k hk) BF BF.size,Rd.of_own o4⟩,⟨fun a ha=>Tre.own_fresh x.r a ha,fun a ha=>Tre.own_fresh x.o a ha,fun k hk=> .inr ⟨k,hk,rfl⟩⟩,?_,Rd.of_own i4,fun a ha=>Tre.own_fresh x.ids a ha,BF⟩
    ·unfold bkA sweepF;simp[hnr.o,hno.o,y.o,hsh.o.1,hsh.o.2]
    ·show(bk.op.map (swE ep)).length≤l;rw[List.length_map,←hno.o];exact own_cap x.o
   have HF:=κ Q;obtain⟨z0,z1,z2,z3,f0,f1,f2,f3⟩:=z4_of x.kZ;clear Q x m W BF
   go_wp2_with fail
   obtain⟨d0,d1,d2,d3⟩:=q4_of F3;clear F3;unfold st4 at d0 d1 d2 d3 HF;exact bodyPost_ret (v:= .tuple #[.agg #[ι sh,ι ca,.slice p nr q,.slice t no l],.slice Ai ni ci]) (by simp[results,Tryz.results65,go_sem,d0,d1,d2,d3]) rfl HF.o
end Rbf
end Go.Proofs.YtcccdikhfgpamaaGreat
