/- Texts side by side. -/
import Derived.Test.YtaeddnjjeholgaaGreatUgaj
set_option linter.unusedVariables false
set_option linter.unusedSimpArgs false
set_option maxRecDepth 100000
set_option maxHeartbeats 16000000
namespace Go.Proofs.YtaeddnjjeholgaaGreat
open Kap Abv Go.ChangeShapes Go.WideShapes Go.ChangeAt Go.RowKit Mem Tre Ref3 Law3 Crd CrdB CrdC Rr4 Bkp Bks Bkf Bcl Dlk Stk Apt Bko Bku Bka
namespace Bkc
variable {cs:Array Value} {bk:Bk} {rl:List Rc} {co cr gR go nr:Nat} {A C:Option Addr} {w w0:World}
theorem ens_setS(l:List En)(i:Nat)(hi:i<l.length)(x:Int):ens (l.set i (setS (gE l i) x))=(ens l).set (i*11+9) (.int .i64 x):=by
 induction l generalizing i with
 |nil=>simp at hi
 |cons m l ih=>
  cases i with
  |zero=>simp[ens,enV,gE,setS]
  |succ i=>
   have h:=ih i (by simpa using hi);have e: ∀l',ens (m :: l')=enV m++ens l':=fun _=>rfl
   have e1:(i+1)*11+9=(i*11+9)+1+1+1+1+1+1+1+1+1+1+1:=by omega
   have e2:gE (m :: l) (i+1)=gE l i:=by simp[gE]
   simp only[List.set_cons_succ];rw[e,e,e1,e2,h];simp[enV]
structure Be(w0 w:World)(gR nr cr:Nat)(A C:Option Addr)(rl:List Rc)(rows:List Ro)(op:List En):Prop where
 r:w.ownsRow w0.heap.size 165 3 (.slice A nr cr) nr (rcs rl)
 o:Rd w w.heap.size C (ens op)
 oN: ∀a,C=some a→a.block≠gR∧w0.heap.size≤a.block
 own: ∀k,k<rl.length→OwR w0.heap.size w (gC rl k)
 e:rl.map Rc.r=rows
 b:Below w0.heap.size w0 w
theorem Be_fin{rows:List Ro}{op:List En}(h:Be w0 w gR nr cr A C rl rows op){u0 u1 u2 u3:Value}(hk:Blk w gR 63 #[u0,u1,u2,u3])(hgR:w0.heap.size≤gR)(v0 v1 v2 v3:Value)(sh ca:Int):
  Bm (Stk.st4 w gR v0 v1 v2 v3) A C rl ⟨sh,ca,rows,op⟩∧Fb w0.heap.size A C rl∧Below w0.heap.size w0 (Stk.st4 w gR v0 v1 v2 v3):=by
 refine⟨⟨Rd.of_own (own_st4 h.r hk (by decide)),h.e,fun k hk'=>Rd.of_own (own_st4 (h.own k hk') hk (by decide)),?_⟩,⟨own_fresh h.r,fun a ha=>(h.oN a ha).2,fun k hk'=>own_fresh (h.own k hk')⟩,st4_below h.b hgR⟩;have hne:=fun a ha=>(h.oN a ha).1
 unfold Stk.st4;exact Rd.keep' (Rd.keep' (Rd.keep' (Rd.keep' h.o (Nat.lt_succ_self _) hne _) (Nat.lt_succ_self _) hne _) (Nat.lt_succ_self _) hne _) (Nat.lt_succ_self _) hne _
theorem Be_of(h:Bo w0.heap.size w A C cr co rl bk)(hn:nr=bk.rows.length)(hk:Blk w gR 63 cs)(hb:Below w0.heap.size w0 w):Be w0 w gR nr cr A C rl bk.rows bk.op:=by
 subst hn;refine⟨h.r,Rd.of_own h.o,fun a ha=>⟨fun e=>blk_own_ne hk h.o (by decide) ?_,own_fresh h.o a ha⟩,h.own,h.e,hb⟩;rw[ha];simp[Value.ownBlock,e]
theorem Bo_setE{base:Nat}{c d:Nat}(h:Bo base w A (some ⟨go,0,none⟩) c d rl bk)(j:Nat)(v:Value)(op':List En)(hl:op'.length=bk.op.length)(he:ens op'=(ens bk.op).set j v):
  Bo base (w.setCell ⟨go,j,none⟩ v) A (some ⟨go,0,none⟩) c d rl ⟨bk.sh,bk.ca,bk.rows,op'⟩:=by
 obtain⟨s1,g1⟩:=World.ownsRow.stored h.o j v;refine⟨own_grown h.r h.o (by decide) g1,?_,h.e,fun k hk=>own_grown (h.own k hk) h.o (by decide) g1,h.ap⟩;show World.ownsRow _ _ _ _ _ op'.length (ens op');rw[he,hl];exact s1
theorem cancel_any(sh ca:Int)(A C:Option Addr)(nr no c d:Nat)(rl:List Rc)(bk:Bk)(k:Int)(w:World)(hsh:Hid (sh=bk.sh∧ca=bk.ca))(hnr:Hid (nr=bk.rows.length))(hno:Hid (no=bk.op.length))(hm:Hid (Bm w A C rl bk))(hf:Hid (FewB bk)):
  Calls Tryz.prog 121 #[.agg #[.int .i64 sh,.int .i64 ca,.slice A nr c,.slice C no d],.int .i64 k] w (MadeB2 (cancelF bk k).1 (cancelF bk k).2 w):=by
 have hl1:nr≤1000:=by rw[hnr.out];exact hf.out.rl
 have hl2:no≤1000:=by rw[hno.out];exact hf.out.ol
 have b0:=κ (γ w (.cells (vB sh ca A nr c C no d) 63) (.cells (vB 0 0 none 0 0 none 0 0) 63));have K0:=κ ((Blk.fresh w 63 (vB sh ca A nr c C no d)).alloc (.cells (vB 0 0 none 0 0 none 0 0) 63));have R0:=κ (δ (w.alloc (.cells (vB sh ca A nr c C no d) 63)) 63 (vB 0 0 none 0 0 none 0 0) (w.heap.size+1))
 go_enter Tryz.func121,Tryz.ntmps121
 go_upto_region 1 with fail
 generalize ((w.alloc (.cells (vB sh ca A nr c C no d) 63)).alloc (.cells (vB 0 0 none 0 0 none 0 0) 63))=w0 at b0 K0 R0 ⊢;obtain⟨gB,hgB⟩:=ν w.heap.size;obtain⟨gZ,hgR⟩:=ν (w.heap.size+1);have hBR:Hid (gZ≠gB):=by show _≠_;omega
 have hLB:Hid (w.heap.size≤gB):=by show _≤_;omega
 have hLR:Hid (w.heap.size≤gZ):=by show _≤_;omega
 have J1:=κ (ζ hgB K0.out);have J3:=κ (ζ hgR R0.out);simp only[←hgR];simp only[←hgB];clear hgB hgR K0 R0;obtain⟨k0,k1,k2,k3⟩:=q4_of J1.out;have HM:=κ (hm.out.below b0.out)
 go_wp2_with fail
 refine(own_any sh ca A C nr no c d rl bk _ hsh hnr hno HM hf).mono ?_;rintro e w2 ⟨Ar,Ao,cr,co,rl2,he,hbo,hb2⟩;have hbk:bkA Ar Ao cr co bk= .agg (vB sh ca Ar nr cr Ao no co):=by unfold bkA;rw[hnr.out,hno.out,hsh.out.1,hsh.out.2]
 rw[hbk]at he;subst he;have HBO:=κ (Bo_mono hbo b0.out.size);have HB2:=κ (below_step b0.out hb2);have L1:=κ (Blk.below' J1.out hb2);have L3:=κ (Blk.below' J3.out hb2);clear k0 k1 k2 k3 hb2 hbk hbo J1 J3 HM b0;obtain⟨k0,k1,k2,k3,f0,f1,f2,f3⟩:=z4_of L1.out;have B3:Hid (Bo w.heap.size ((((w2.setCell (α gB 0) (ι sh)).setCell (α gB 1) (ι ca)).setCell (α gB 2) (.slice Ar nr cr)).setCell (α gB 3) (.slice Ao no co)) Ar Ao cr co rl2 bk):=Bo_st4 HBO.out L1.out (by decide) (by decide) (by decide) _ _ _ _;have P1:Hid (Blk ((((w2.setCell (α gB 0) (ι sh)).setCell (α gB 1) (ι ca)).setCell (α gB 2) (.slice Ar nr cr)).setCell (α gB 3) (.slice Ao no co)) gB 63 (vB sh ca Ar nr cr Ao no co)):=st4_blk L1.out;have P3:Hid (Blk ((((w2.setCell (α gB 0) (ι sh)).setCell (α gB 1) (ι ca)).setCell (α gB 2) (.slice Ar nr cr)).setCell (α gB 3) (.slice Ao no co)) gZ 63 (vB 0 0 none 0 0 none 0 0)):=st4_far L3.out hBR.out;have B3b:Hid (Below w.heap.size w ((((w2.setCell (α gB 0) (ι sh)).setCell (α gB 1) (ι ca)).setCell (α gB 2) (.slice Ar nr cr)).setCell (α gB 3) (.slice Ao no co))):=st4_below HB2.out hLB.out
 go_upto_region 2 with fail
 clear k0 k1 k2 k3 f0 f1 f2 f3 L1 L3 HBO HB2;generalize ((((w2.setCell (α gB 0) (ι sh)).setCell (α gB 1) (ι ca)).setCell (α gB 2) (.slice Ar nr cr)).setCell (α gB 3) (.slice Ao no co))=w3 at B3 P1 P3 B3b ⊢;obtain⟨k0,k1,k2,k3⟩:=q4_of P1.out;have PLC:=place_any sh ca Ar Ao nr no cr co bk.op k w3 hno (Rd.of_own (by have h:=B3.out.o;exact h)) (by omega);by_cases hp:posE bk.op k<bk.op.length
 case neg=>
  rw[placeF_f hp]at PLC;have HP:=κ hp;clear hp
  go_upto_region 3 with(go_at_call 128;refine PLC.mono ?_;rintro e w4 ⟨rfl,hb4⟩)
  have B4:Hid (Bo w.heap.size w4 Ar Ao cr co rl2 bk):=⟨own_below B3.out.r hb4,own_below B3.out.o hb4,B3.out.e,fun j hj=>own_below (B3.out.own j hj) hb4,B3.out.ap⟩;have P14:=κ (Blk.below' P1.out hb4);have P34:=κ (Blk.below' P3.out hb4);have B4b:=κ (below_step B3b.out hb4);clear k0 k1 k2 k3 hb4 PLC
  have HF0:Hid (cancelF bk k=(⟨sh,ca,bk.rows,bk.op⟩,15)):=by
   show _=_;unfold cancelF;rw[if_neg (show ¬posE bk.op k<bk.op.length from by have:=HP.out;omega),hsh.out.1,hsh.out.2]
  have F3:Blk (st4 w4 gZ (ι sh) (ι ca) (.slice Ar nr cr) (.slice Ao no co)) gZ 63 (vB sh ca Ar nr cr Ao no co):=st4_blk P34.out
  have hfin:MadeB2 (cancelF bk k).1 (cancelF bk k).2 w (.returned (.tuple #[.agg (vB sh ca Ar nr cr Ao no co),ι 15])) (st4 w4 gZ (ι sh) (ι ca) (.slice Ar nr cr) (.slice Ao no co)):=by
   obtain⟨y1,y2,y3⟩:=Be_fin (Be_of B4.out hnr.out P34.out B4b.out) P34.out hLR.out (.int .i64 sh) (.int .i64 ca) (.slice Ar nr cr) (.slice Ao no co) sh ca;rw[HF0.out];refine⟨Ar,Ao,cr,co,rl2,?_,y1,y2,y3⟩;unfold bkA;simp[hno.out,hnr.out]
  have HF:=κ hfin;clear hfin;obtain⟨k0,k1,k2,k3⟩:=q4_of P14.out;obtain⟨z0,z1,z2,z3,f0,f1,f2,f3⟩:=z4_of P34.out
  go_wp2_with fail
  obtain⟨d0,d1,d2,d3⟩:=q4_of F3;clear F3;unfold st4 at d0 d1 d2 d3 HF;exact bodyPost_ret (v:= .tuple #[.agg #[ι sh,ι ca,.slice Ar nr cr,.slice Ao no co],ι 15]) (by simp[results,Tryz.results121,go_sem,d0,d1,d2,d3]) rfl HF.out
 case pos=>
  rw[placeF_t hp]at PLC;obtain⟨go,hgo⟩:=own_at B3.out.o (by omega);subst hgo;have HP:=κ hp;obtain⟨i,hi⟩:=ν (posE bk.op k);rw[←hi]at PLC;have hil:i<bk.op.length:=by rw[hi];exact hp
  have hin:i<no:=by rw[hno.out];exact hil
  have HI:=κ hi;have HIL:=κ hil;have tne:((i:Int)== -1)=false:=by rw[beq_eq_false_iff_ne];omega
  clear hp hi hil
  go_upto_region 3 with(go_at_call 128;refine PLC.mono ?_;rintro e w4 ⟨rfl,hb4⟩)
  have B4:Hid (Bo w.heap.size w4 Ar (some (α go 0)) cr co rl2 bk):=⟨own_below B3.out.r hb4,own_below B3.out.o hb4,B3.out.e,fun j hj=>own_below (B3.out.own j hj) hb4,B3.out.ap⟩;have P14:=κ (Blk.below' P1.out hb4);have P34:=κ (Blk.below' P3.out hb4);have B4b:=κ (below_step B3b.out hb4);clear k0 k1 k2 k3 hb4 PLC B3 P1 P3 B3b;obtain⟨_,_,hncap,hcapm,hroom,hcell⟩:=own_room B4.out.o;rw[←hno.out]at hncap;have c8:=hcell (i*11+8) _ (ens_get bk.op i 8 HIL.out (by decide));have c9:=hcell (i*11+9) _ (ens_get bk.op i 9 HIL.out (by decide));have g8:=(hroom (i*11+8) (by omega)).2;have g9:=(hroom (i*11+9) (by omega)).2;clear hroom hcell;obtain⟨E,hE⟩:=ν (gE bk.op i);rw[←hE]at c8 c9;have HE:=κ hE;clear hE;obtain⟨id,⟨a,s,x,p,q',n,tt⟩,lf,st,ep⟩:=E;replace c8:w4.cell? ⟨go,i*11+8,none⟩=some (.int .i64 lf):=c8;replace c9:w4.cell? ⟨go,i*11+9,none⟩=some (.int .i64 st):=c9;obtain⟨k0,k1,k2,k3,f0,f1,f2,f3⟩:=z4_of P14.out;by_cases hst:st=2
  ·have t1:(st==2)=true:=by simp[hst]
   have HF0':Hid (cancelF bk k=(bk,16)):=by
    show _=_;unfold cancelF;rw[if_pos HP.out,←HI.out,←HE.out,if_pos hst]
   clear hst
   go_upto_region 6 with fail
   clear k0 k1 k2 k3 f0 f1 f2 f3
   have HF0:Hid (cancelF bk k=(⟨sh,ca,bk.rows,bk.op⟩,16)):=by
    show _=_;rw[HF0'.out,hsh.out.1,hsh.out.2]
   have F3:Blk (st4 w4 gZ (ι sh) (ι ca) (.slice Ar nr cr) (.slice (some (α go 0)) no co)) gZ 63 (vB sh ca Ar nr cr (some (α go 0)) no co):=st4_blk P34.out
   have hfin:MadeB2 (cancelF bk k).1 (cancelF bk k).2 w (.returned (.tuple #[.agg (vB sh ca Ar nr cr (some (α go 0)) no co),ι 16])) (st4 w4 gZ (ι sh) (ι ca) (.slice Ar nr cr) (.slice (some (α go 0)) no co)):=by
    obtain⟨y1,y2,y3⟩:=Be_fin (Be_of B4.out hnr.out P34.out B4b.out) P34.out hLR.out (.int .i64 sh) (.int .i64 ca) (.slice Ar nr cr) (.slice (some ⟨go,0,none⟩) no co) sh ca;rw[HF0.out];refine⟨Ar,(some (α go 0)),cr,co,rl2,?_,y1,y2,y3⟩;unfold bkA;simp[hno.out,hnr.out]
   have HF:=κ hfin;clear hfin;obtain⟨k0,k1,k2,k3⟩:=q4_of P14.out;obtain⟨z0,z1,z2,z3,f0,f1,f2,f3⟩:=z4_of P34.out
   go_wp2_with fail
   obtain⟨d0,d1,d2,d3⟩:=q4_of F3;clear F3;unfold st4 at d0 d1 d2 d3 HF;exact bodyPost_ret (v:= .tuple #[.agg #[ι sh,ι ca,.slice Ar nr cr,.slice (some (α go 0)) no co],ι 16]) (by simp[results,Tryz.results121,go_sem,d0,d1,d2,d3]) rfl HF.out
  ·have t1:(st==2)=false:=by simp[hst]
   have HF0:Hid (cancelF bk k=(⟨sh,ca,bk.rows,bk.op.set i (setS (gE bk.op i) 2)⟩,0)):=by
    show _=_;unfold cancelF;rw[if_pos HP.out,←HI.out,←HE.out,if_neg hst,hsh.out.1,hsh.out.2]
   clear hst;have HLN:Hid (no=(bk.op.set i (setS (gE bk.op i) 2)).length):=by show _=_;rw[List.length_set];exact hno.out
   have hneB:gB≠go:=fun e=>blk_own_ne P14.out B4.out.o (by decide) (by rw[e];rfl)
   have hneR:gZ≠go:=fun e=>blk_own_ne P34.out B4.out.o (by decide) (by rw[e];rfl)
   have B5:Hid (Bo w.heap.size (w4.setCell (α go (i*11+9)) (ι 2)) Ar (some (α go 0)) cr co rl2 (⟨bk.sh,bk.ca,bk.rows,bk.op.set i (setS (gE bk.op i) 2)⟩:Bk)):=Bo_setE B4.out (i*11+9) _ _ (by simp) (ens_setS _ _ HIL.out _);have P15:Hid (Blk (w4.setCell (α go (i*11+9)) (ι 2)) gB 63 (vB sh ca Ar nr cr (some (α go 0)) no co)):=far_st P14.out hneB _;have P35:Hid (Blk (w4.setCell (α go (i*11+9)) (ι 2)) gZ 63 (vB 0 0 none 0 0 none 0 0)):=far_st P34.out hneR _;have B5b:Hid (Below w.heap.size w (w4.setCell (α go (i*11+9)) (ι 2))):=B4b.out.setCell (p:=(α go (i*11+9))) (own_fresh B4.out.o (α go 0) rfl) _
   go_upto_region 8 with fail
   clear k0 k1 k2 k3 f0 f1 f2 f3 c8 c9 g8 g9 B4 P14 P34 B4b hneB hneR;generalize (w4.setCell (α go (i*11+9)) (ι 2))=w5 at B5 P15 P35 B5b ⊢;have F3:Blk (st4 w5 gZ (ι sh) (ι ca) (.slice Ar nr cr) (.slice (some (α go 0)) no co)) gZ 63 (vB sh ca Ar nr cr (some (α go 0)) no co):=st4_blk P35.out
   have hfin:MadeB2 (cancelF bk k).1 (cancelF bk k).2 w (.returned (.tuple #[.agg (vB sh ca Ar nr cr (some (α go 0)) no co),ι 0])) (st4 w5 gZ (ι sh) (ι ca) (.slice Ar nr cr) (.slice (some (α go 0)) no co)):=by
    obtain⟨y1,y2,y3⟩:=Be_fin (Be_of B5.out hnr.out P35.out B5b.out) P35.out hLR.out (.int .i64 sh) (.int .i64 ca) (.slice Ar nr cr) (.slice (some ⟨go,0,none⟩) no co) sh ca;rw[HF0.out];refine⟨Ar,(some (α go 0)),cr,co,rl2,?_,y1,y2,y3⟩;unfold bkA;simp[hno.out,hnr.out]
   have HF:=κ hfin;clear hfin;obtain⟨k0,k1,k2,k3⟩:=q4_of P15.out;obtain⟨z0,z1,z2,z3,f0,f1,f2,f3⟩:=z4_of P35.out
   go_wp2_with fail
   obtain⟨d0,d1,d2,d3⟩:=q4_of F3;clear F3;unfold st4 at d0 d1 d2 d3 HF;exact bodyPost_ret (v:= .tuple #[.agg #[ι sh,ι ca,.slice Ar nr cr,.slice (some (α go 0)) no co],ι 0]) (by simp[results,Tryz.results121,go_sem,d0,d1,d2,d3]) rfl HF.out
end Bkc
end Go.Proofs.YtaeddnjjeholgaaGreat
