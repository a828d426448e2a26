/- Texts side by side. -/
import Derived.Test.YtfbajlcljfjbkaaGreatUdae
set_option linter.unusedVariables false
set_option linter.unusedSimpArgs false
set_option maxRecDepth 100000
set_option maxHeartbeats 16000000
namespace Go.Proofs.YtfbajlcljfjbkaaGreat
open Kap Abv Lax Go.ChangeShapes Go.WideShapes Go.ChangeAt Go.RowKit Mem Tre Ref3 Law3 CrdB CrdC Rr4 Bkp Bks Bkf Bkg Bcl Dlk Stk Apt Bko Bku Bka Bkc Lat Rba Rbc
namespace Rbd
def Fr(B:Nat)(X:Option Addr):Prop:= ∀a,X=some a→B≤a.block
def Nw(B:Nat)(rl:List Rc)(A C:Option Addr)(rl':List Rc):Prop:=Fr B A∧Fr B C∧ ∀i,i<rl'.length→Fr B (gC rl' i).A∨ ∃j,j<rl.length∧gC rl' i=gC rl j
def MadeRb(rl:List Rc)(b:Bk)(x:Int)(w:World)(e:Ending)(w':World):Prop:=
 ∃A C c d rl',e= .returned (.tuple #[bkA A C c d b,.int .i64 x])∧Bm w' A C rl' b∧(x=0→Nw w.heap.size rl A C rl'∧b.op.length≤d)∧Below w.heap.size w w'
variable {b:Bk} {rl:List Rc} {xs ys:List Value} {B base c d o:Nat} {A C:Option Addr} {w:World}
theorem Co_bm(h:Co base w A C c d rl b):Bm w A C rl b:=⟨Rd.of_own h.r,h.e,h.n,Rd.of_own h.o⟩
theorem own_cap{e:TypeId}{size n:Nat}(h:w.ownsRow base e size (.slice A n c) n xs):n≤c:=by
 by_cases h0:n=0
 ·omega
 ·obtain⟨g,hg⟩:=Bko.own_at h (by omega);subst hg;exact(own_room h).2.2.1
theorem Co_nw(h:Co base w A C c d rl b):Nw base rl A C rl∧b.op.length≤d:=
 ⟨⟨fun a ha=>Tre.own_fresh h.r a ha,fun a ha=>Tre.own_fresh h.o a ha,fun i hi=> .inr ⟨i,hi,rfl⟩⟩,own_cap h.o⟩
theorem Co_below{w':World}(h:Co base w A C c d rl b)(hb:Below w.heap.size w w'):Co base w' A C c d rl b:=
 ⟨own_below h.r hb,own_below h.o hb,h.e,fun i hi=>Rd.below' (h.n i hi) hb hb.size⟩
theorem Co_mono{base':Nat}(h:Co base w A C c d rl b)(hb:base'≤base):Co base' w A C c d rl b:=
 ⟨CrdB.own_mono h.r hb,CrdB.own_mono h.o hb,h.e,h.n⟩
theorem copy_agg{sh ca:Int}{nr no:Nat}{bk:Bk}(hsh:sh=bk.sh∧ca=bk.ca)(hnr:nr=bk.rows.length)(hno:no=bk.op.length)(A C:Option Addr)(c d:Nat):bkA A C c d bk= .agg #[.int .i64 sh,.int .i64 ca,.slice A nr c,.slice C no d]:=by
 unfold bkA;rw[hsh.1,hsh.2,hnr,hno]
theorem slice_front(b o n d i:Nat)(h:i≤d)(W:World):(Instr.slice 108 (.slice (some ⟨b,o,none⟩) n d) none (some (.int .i64 (i:Int))) none).run Tryz.prog W= .ok (.slice (some ⟨b,o,none⟩) i d) W:=by
 rw[run_slice_h W 108 (some ⟨b,o,none⟩) n d (by kernel_rfl) .i64 (i:Int) (by omega) (by omega)];rw[show(sizeOf (Tryz.prog.elem 108)).run Tryz.prog W= .ok 11 W from by kernel_rfl];simp[Result.andThen,sliced,Addr.add]
theorem slice_back(b o n d i:Nat)(h:i≤n)(hd:n≤d)(W:World): ∃X,(∀W:World,(Instr.slice 108 (.slice (some ⟨b,o,none⟩) n d) (some (.int .i64 (i:Int))) none none).run Tryz.prog W= .ok (.slice X (n-i) (d-i)) W)∧(i<d→X=some ⟨b,o+i*11,none⟩):=by
 refine⟨if d=i then some (α b o) else some (α b (o+i*11)),fun W=>?_,fun hlt=>by rw[if_neg (by omega)]⟩;rw[run_slice_l W 108 (some ⟨b,o,none⟩) n d (by kernel_rfl) .i64 (i:Int) (by omega) (by omega)];rw[show(sizeOf (Tryz.prog.elem 108)).run Tryz.prog W= .ok 11 W from by kernel_rfl];simp[Result.andThen,sliced,Addr.add];by_cases e:d=i
 ·simp[e]
 ·simp only[if_neg e]
  congr 1
  by_cases h0:i*11=0
  ·rw[if_pos h0,h0];rfl
  ·rw[if_neg h0]
theorem front(h:Rd w B A (xs++ys)):Rd w B A xs:=by
 rcases h with h|⟨b,o,hA,hb,hc⟩
 ·exact .inl (List.append_eq_nil_iff.1 h).1
 ·exact .inr ⟨b,o,hA,hb,fun i v hi=>hc i v (by rw[List.getElem?_append_left (List.getElem?_eq_some_iff.1 hi).1];exact hi)⟩
theorem back{b:Nat}(h:Rd w B (some ⟨b,o,none⟩) (xs++ys)):Rd w B (some ⟨b,o+xs.length,none⟩) ys:=by
 rcases h with h|⟨b',o',hA,hb,hc⟩
 ·exact .inl (List.append_eq_nil_iff.1 h).2
 ·injection hA with hA
  injection hA with h1 h2
  subst h1;subst h2;refine .inr ⟨b,o+xs.length,rfl,hb,fun i v hi=>?_⟩;have h3:=hc (xs.length+i) v (by rw[List.getElem?_append_right (by omega)];simpa using hi);rwa[←Nat.add_assoc]at h3
theorem ens_cut{b:Nat}{l:List En}(h:Rd w B (some ⟨b,o,none⟩) (ens l))(i:Nat)(hi:i<l.length):Rd w B (some ⟨b,o,none⟩) (ens (l.take i))∧Rd w B (some ⟨b,o+(i+1)*11,none⟩) (ens (l.drop (i+1))):=by
 constructor
 ·have e:ens l=ens (l.take i)++ens (l.drop i):=by rw[←ens_app,List.take_append_drop]
  rw[e]at h;exact front h
 ·have e:ens l=ens (l.take (i+1))++ens (l.drop (i+1)):=by rw[←ens_app,List.take_append_drop]
  rw[e]at h;have h2:=back h;rwa[ens_len,List.length_take,show min (i+1) l.length=i+1 by omega]at h2
def MadeCl(rl:List Rc)(b:Bk)(w:World)(e:Ending)(w':World):Prop:=
 ∃A C c d,e= .returned (bkA A C c d b)∧Co w.heap.size w' A C c d rl b∧Below w.heap.size w w'
theorem closed_any(sh ca:Int)(A C:Option Addr)(nr no c d:Nat)(rl:List Rc)(bk:Bk)(i:Nat)(w:World)(hsh:Hid (sh=bk.sh∧ca=bk.ca))(hnr:Hid (nr=bk.rows.length))(hno:Hid (no=bk.op.length))(hm:Hid (Bm w A C rl bk))(l1:nr≤1000)(l2:no≤1000)(hd:no≤d)(hi:i<no):
  Calls Tryz.prog 120 #[.agg #[.int .i64 sh,.int .i64 ca,.slice A nr c,.slice C no d],.int .i64 (i:Int)] w (MadeCl rl ⟨bk.sh,bk.ca,bk.rows,delE bk.op i⟩ w):=by
 obtain⟨i2,hi2,hz0,hz1,hz2⟩:=info_parts infoRE;have b0:=κ (γ w (.cells (vB sh ca A nr c C no d) 110) (.cells (vB 0 0 none 0 0 none 0 0) 110));have K0:=κ ((Blk.fresh w 110 (vB sh ca A nr c C no d)).alloc (.cells (vB 0 0 none 0 0 none 0 0) 110));have R0:=κ (δ (w.alloc (.cells (vB sh ca A nr c C no d) 110)) 110 (vB 0 0 none 0 0 none 0 0) (w.heap.size+1))
 go_enter Tryz.func120,Tryz.ntmps120
 go_upto_region 1 with fail
 obtain⟨gB,hgB⟩:=ν w.heap.size;obtain⟨gZ,hgR⟩:=ν (w.heap.size+1);have K1:=κ (ζ hgB K0.out);have R1:=κ (ζ hgR R0.out);have hge:Hid (w.heap.size≤gZ):=by show _≤_;omega
 simp only[←hgR];simp only[←hgB];clear hgB hgR K0 R0;generalize ((w.alloc (.cells (vB sh ca A nr c C no d) 110)).alloc (.cells (vB 0 0 none 0 0 none 0 0) 110))=w0 at b0 K1 R1 ⊢;have HM0:=κ (hm.out.below b0.out);obtain⟨k0,k1,k2,k3⟩:=q4_of K1.out
 go_wp2_with fail
 refine(copied_any sh ca A C nr no c d rl bk _ hsh hnr hno HM0 l1 l2).mono ?_;rintro e w2 ⟨A',C',c',d',he,hco,hb2⟩;rw[copy_agg hsh.out hnr.out hno.out]at he;subst he;have U3:=β w2 (.cells (vB sh ca A' nr c' C' no d') 110);have V3:=κ (Blk.fresh w2 110 (vB sh ca A' nr c' C' no d'));have B3:=κ (CrdB.below_step (CrdB.below_step b0.out hb2) U3);have K3:=κ (Blk.below' (Blk.below' K1.out hb2) U3);have R3:=κ (Blk.below' (Blk.below' R1.out hb2) U3);have O3:=κ (Co_below (Co_mono hco b0.out.size) U3);have hVL:=κ ((CrdB.below_step b0.out hb2).size);have hVB:Hid (w2.heap.size≠gB):=by show _≠_;have:=(Blk.below' K1.out hb2).lt;omega
 have hVZ:Hid (w2.heap.size≠gZ):=by show _≠_;have:=(Blk.below' R1.out hb2).lt;omega
 clear k0 k1 k2 k3 hb2 hco U3 b0 K1 R1 HM0
 go_upto_region 2 with fail
 generalize w2.alloc (.cells (vB sh ca A' nr c' C' no d') 110)=w3 at V3 B3 K3 R3 O3 ⊢;generalize w2.heap.size=gV at V3 hVB hVZ hVL ⊢;have hio:i<bk.op.length:=by rw[←hno.out];exact hi
 obtain⟨cb,co,hC,hcb,_⟩:=Rd.at hm.out.o (by intro e;have h1:=ens_len bk.op;rw[e]at h1;simp at h1;omega);subst hC;have HCut:=κ (ens_cut hm.out.o i hio);have HFR:Hid (∀W,Below w.heap.size w W→Rd W W.heap.size (some (α cb co)) (ens (bk.op.take i))):=fun W hb=>Rd.below' HCut.out.1 hb hb.size
 have sl1:=slice_front cb co no d i (by omega);obtain⟨X,sl2,hX⟩:=slice_back cb co no d (i+1) (by omega) hd w
 have HBK:Hid (∀W,Below w.heap.size w W→Rd W W.heap.size X (ens (bk.op.drop (i+1)))):=by
  intro W hb;by_cases h9:i+1<d
  ·rw[hX h9];exact Rd.below' HCut.out.2 hb hb.size
  ·have h8:bk.op.drop (i+1)=[]:=List.drop_eq_nil_of_le (by rw[←hno.out];omega);rw[h8];exact .inl rfl
 have e9:((i+1:Nat):Int)=(i:Int)+1:=by omega
 rw[e9]at sl2;have ew:IntKind.i64.wrap ((i:Int)+1)=(i:Int)+1:=by rw[IntKind.wrap_i64];omega
 have HL1:Hid ((ens (bk.op.take i)).length=i*11):=by show _=_;rw[ens_len,List.length_take,show min i bk.op.length=i by omega]
 obtain⟨nb9,hnb9⟩:=ν (no-(i+1));rw[←hnb9]at sl2;have HL2:Hid ((ens (bk.op.drop (i+1))).length=nb9*11):=by show _=_;rw[ens_len,List.length_drop,←hno.out,hnb9]
 obtain⟨n7,hn7⟩:=ν (i+nb9);have HN7:=κ hn7
 have HDE:Hid ((delE bk.op i).length=n7):=by
  show(bk.op.take i++bk.op.drop (i+1)).length=_;rw[List.length_append,List.length_take,List.length_drop,←hno.out,hn7,hnb9];omega
 have hnb8:nb9≤1000:=by omega
 obtain⟨dd9,hdd9⟩:=ν (d-(i+1));rw[←hdd9]at sl2;clear hnb9 hn7 hdd9 hX e9 HCut;have K3d:=κ (ε K3.out);have R3d:=κ (ε R3.out);have V3d:=κ (ε V3.out);have B3d:=κ (Below.drew B3.out);have OR3:Hid (w3.drew.ownsRow w.heap.size 153 3 (.slice A' nr c') nr (rcs rl)):=by have h:=O3.out.r;rw[←hnr.out]at h;exact own_drew h
 let T77:World→Prop:=fun w'=>w'.cell? (α gB 3)=some (.slice (some (α cb co)) no d)∧w'.cell? (α gV 3)=some (.slice C' no d')
 have HT:Hid (T77 (w3.drew)):=⟨K3d.out.cell 3,V3d.out.cell 3⟩;clear K3 R3 V3 B3;refine Ω T77 [13] ?_;refine jA 1 HT.out ?_;refine jB 2 HT.out ?_;refine jA 3 HT.out ?_;refine jA 4 HT.out ?_;refine jA 6 HT.out ?_;refine jB 7 HT.out ?_;refine jA 8 HT.out ?_;refine jA 9 HT.out ?_;refine jA 10 HT.out ?_;have U4:=β w3.drew (.cells #[] 122);have K4:=κ (Blk.below' K3d.out U4);have R4:=κ (Blk.below' R3d.out U4);have V4:=κ (Blk.below' V3d.out U4);have B4:=κ (CrdB.below_step B3d.out U4);have OR4:=own_below OR3 U4;have OE4:Hid (World.ownsRow (w3.drew.alloc (.cells #[] 122)) w.heap.size 122 11 (.slice (some (α w3.heap.size 0)) 0 0) 0 []):=own_empty (blk_hd (by simp)) (by have h8:=B3d.out.size;simpa using h8);have HT4:Hid (T77 (w3.drew.alloc (.cells #[] 122))):=⟨K4.out.cell 3,V4.out.cell 3⟩;have Q4:=κ (HFR.out _ B4.out);clear U4;refine jN 0 fun K' hK=>?_
 go_simp;refine hK.out _ _ HT4.out ?_;clear hK K';refine jP ?_;refine jN 5 fun K' hK=>?_
 refine step_appG (nm:=i) OE4 Q4 (by simp) rfl _ _ _ rfl i2 (.agg #[ι 0,ι 0,ι 0,.bool false,ι 0,ι 0,ι 0,ι 0,ι 0,ι 0,ι 0]) 88 Tryz.underlying108 hi2 hz0 hz1 hz2 rfl (by decide) rfl rfl HL1.out (ens_one _) (by unfold maxLen;omega) (by omega) B4.out.size ?_;intro X5 y5 w5 O5 hg5;have K5:=κ (blk_own_grown K4.out OE4.out (by decide) hg5);have R5:=κ (blk_own_grown R4.out OE4.out (by decide) hg5);have V5:=κ (blk_own_grown V4.out OE4.out (by decide) hg5);have B5:=κ (grown_below B4.out OE4.out hg5 τ B4.out.size);have OR5:=κ (Apt.own_grown OR4.out OE4.out (by decide) hg5);have OE5:=κ O5.out;have HT5:Hid (T77 w5):=⟨K5.out.cell 3,V5.out.cell 3⟩;clear hg5 O5;refine hK.out _ _ HT5.out ?_;clear hK K';refine jP ?_;have Q5:=κ (HBK.out _ B5.out);refine jN 11 fun K' hK=>?_
 refine step_appG (nm:=n7) OE5 Q5 HN7.out rfl _ _ _ rfl i2 (.agg #[ι 0,ι 0,ι 0,.bool false,ι 0,ι 0,ι 0,ι 0,ι 0,ι 0,ι 0]) 88 Tryz.underlying108 hi2 hz0 hz1 hz2 rfl (by decide) rfl rfl HL2.out (ens_one _) (by unfold maxLen;omega) (by omega) B5.out.size ?_;intro X11 y11 w11 O11 hg11;have K11:=κ (blk_own_grown K5.out OE5.out (by decide) hg11);have R11:=κ (blk_own_grown R5.out OE5.out (by decide) hg11);have V11:=κ (blk_own_grown V5.out OE5.out (by decide) hg11);have B11:=κ (grown_below B5.out OE5.out hg11 τ B5.out.size);have OR11:=κ (Apt.own_grown OR5.out OE5.out (by decide) hg11);have OE11:=κ O11.out;have HT11:Hid (T77 w11):=⟨K11.out.cell 3,V11.out.cell 3⟩;clear hg11 O11;refine hK.out _ _ HT11.out ?_;clear hK K';refine jP ?_;refine jA 12 HT11.out ?_;obtain⟨v0,v1,v2,v3,g0,g1,g2,g3⟩:=z4_of V11.out;refine jV 13 fun K' hK=>?_
 go_simp;refine hK.out _ _ ?_;clear hK K';refine jP ?_;refine Δ ?_;have V9:=κ (ξ (blk_st V11.out 3 (.slice X11 n7 y11)));have R9:Hid (Blk (w11.setCell (α gV 3) (.slice X11 n7 y11)) gZ 110 (vB 0 0 none 0 0 none 0 0)):=far_st R11.out (fun e=>hVZ.out e.symm) _;have B9:Hid (Below w.heap.size w (w11.setCell (α gV 3) (.slice X11 n7 y11))):=B11.out.setCell (p:=(α gV 3)) (by show w.heap.size≤gV;exact hVL.out) _;have OR9:Hid (World.ownsRow (w11.setCell (α gV 3) (.slice X11 n7 y11)) w.heap.size 153 3 (.slice A' nr c') nr (rcs rl)):=own_st OR11.out V11.out (by decide) 3 _
 have OE9:Hid (World.ownsRow (w11.setCell (α gV 3) (.slice X11 n7 y11)) w.heap.size 122 11 (.slice X11 n7 y11) n7 (ens (delE bk.op i))):=by
  have h:=own_st OE11.out V11.out (by decide) 3 (.slice X11 n7 y11);show World.ownsRow _ _ _ _ _ _ _;simpa[delE,ens_app] using h
 go_upto_region 3 with fail
 clear v0 v1 v2 v3 g0 g1 g2 g3 V11 R11 B11 OR11 OE11 HT11 K11;generalize (w11.setCell (α gV 3) (.slice X11 n7 y11))=w9 at V9 R9 B9 OR9 OE9 ⊢;have F3:Blk (st4 w9 gZ (ι sh) (ι ca) (.slice A' nr c') (.slice X11 n7 y11)) gZ 110 (vB sh ca A' nr c' X11 n7 y11):=st4_blk R9.out;have BF:Below w.heap.size w (st4 w9 gZ (ι sh) (ι ca) (.slice A' nr c') (.slice X11 n7 y11)):=st4_below B9.out hge.out;have OF1:=own_st4 OR9 R9.out (by decide) (v0:= ι sh) (v1:= ι ca) (v2:= .slice A' nr c') (v3:= .slice X11 n7 y11);have OF2:=own_st4 OE9 R9.out (by decide) (v0:= ι sh) (v1:= ι ca) (v2:= .slice A' nr c') (v3:= .slice X11 n7 y11)
 have hfin:MadeCl rl ⟨bk.sh,bk.ca,bk.rows,delE bk.op i⟩ w (.returned (.agg (vB sh ca A' nr c' X11 n7 y11))) (st4 w9 gZ (ι sh) (ι ca) (.slice A' nr c') (.slice X11 n7 y11)):=by
  refine⟨A',X11,c',y11,?_,⟨?_,?_,hm.out.e,fun k hk=>Rd.below' (hm.out.n k hk) BF BF.size⟩,BF⟩
  ·unfold bkA;rw[←hnr.out,←hsh.out.1,←hsh.out.2];simp only[HDE.out]
  ·show World.ownsRow _ _ _ _ (.slice A' bk.rows.length c') bk.rows.length _;rw[←hnr.out];exact OF1
  ·show World.ownsRow _ _ _ _ (.slice X11 (delE bk.op i).length y11) (delE bk.op i).length _;rw[HDE.out];exact OF2
 have HF:=κ hfin;clear hfin OF1 OF2 BF;obtain⟨v0,v1,v2,v3,_,_,_,_⟩:=z4_of V9.out;obtain⟨z0,z1,z2,z3,g0,g1,g2,g3⟩:=z4_of R9.out
 go_wp2_with fail
 obtain⟨e0,e1,e2,e3⟩:=q4_of F3;clear F3;unfold st4 at e0 e1 e2 e3 HF;exact bodyPost_ret (v:= .agg #[ι sh,ι ca,.slice A' nr c',.slice X11 n7 y11]) (by simp[results,Tryz.results120,go_sem,e0,e1,e2,e3]) rfl HF.out
end Rbd
end Go.Proofs.YtfbajlcljfjbkaaGreat
