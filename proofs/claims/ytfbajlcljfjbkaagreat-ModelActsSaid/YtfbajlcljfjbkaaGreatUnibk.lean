/- Texts side by side. -/
import Derived.Test.YtfbajlcljfjbkaaGreatUniaf
set_option linter.unusedVariables false
set_option linter.unusedSimpArgs false
set_option maxRecDepth 100000
set_option maxHeartbeats 16000000
namespace Go.Proofs.YtfbajlcljfjbkaaGreat
open Kap Abv Go.ChangeShapes Go.WideShapes Go.ChangeAt Go.RowKit Mem Tre Ref3 Law3 Fix3 Crd CrdB CrdC Cpl Own Res Rel Lim Rr4
namespace Rfs
def MadeResR(X X':Option Addr)(l:List (Int×Int))(u:List Int)(p:Int×Int)(w:World)(e:Ending)(w':World):Prop:=
 ∃A c A' c',e= .returned (.tuple #[.agg #[.slice A l.length c,.slice A' u.length c'],.int .i64 p.1,.int .i64 p.2])∧Nds w' w'.heap.size A l∧Ris w' w'.heap.size A' u∧Below w.heap.size w w'∧(A=X∨ ∀a,A=some a→w.heap.size≤a.block)∧(A'=X'∨ ∀a,A'=some a→w.heap.size≤a.block)
variable {b:Int} {l:List (Int×Int)} {u u':List Int} {c c':Nat} {A A' X X':Option Addr} {w w':World}
theorem madeRes_mkR{p:Int×Int}{a:Int}(fa:A=X∨ ∀a,A=some a→w.heap.size≤a.block)(fb:A'=X'∨ ∀a,A'=some a→w.heap.size≤a.block)(hu:u=u')(hp:p=(a,b))(h1:Nds w' w'.heap.size A l)(h2:Ris w' w'.heap.size A' u')(hb:Below w.heap.size w w'):
  MadeResR X X' l u p w (.returned (.tuple #[.agg #[.slice A l.length c,.slice A' u'.length c'],.int .i64 a,.int .i64 b])) w':=by
 subst hu;subst hp;exact⟨A,c,A',c',rfl,h1,h2,hb,fa,fb⟩
def MadeRelR(X X':Option Addr)(l:List (Int×Int))(u:List Int)(b:Bool)(w:World)(e:Ending)(w':World):Prop:=
 ∃A c A' c',e= .returned (.tuple #[.agg #[.slice A l.length c,.slice A' u.length c'],.bool b])∧Nds w' w'.heap.size A l∧Ris w' w'.heap.size A' u∧Below w.heap.size w w'∧(A=X∨ ∀a,A=some a→w.heap.size≤a.block)∧(A'=X'∨ ∀a,A'=some a→w.heap.size≤a.block)
theorem madeRel_mkR{b b':Bool}(fa:A=X∨ ∀a,A=some a→w.heap.size≤a.block)(fb:A'=X'∨ ∀a,A'=some a→w.heap.size≤a.block)(hu:u=u')(hp:b=b')(h1:Nds w' w'.heap.size A l)(h2:Ris w' w'.heap.size A' u')(hb:Below w.heap.size w w'):
  MadeRelR X X' l u b w (.returned (.tuple #[.agg #[.slice A l.length c,.slice A' u'.length c'],.bool b'])) w':=by
 subst hu;subst hp;exact⟨A,c,A',c',rfl,h1,h2,hb,fa,fb⟩
def MadeLimR(X X':Option Addr)(l:List (Int×Int))(u:List Int)(b:Int)(w:World)(e:Ending)(w':World):Prop:=
 ∃A c A' c',e= .returned (.tuple #[.agg #[.slice A l.length c,.slice A' u.length c'],.int .i64 b])∧Nds w' w'.heap.size A l∧Ris w' w'.heap.size A' u∧Below w.heap.size w w'∧(A=X∨ ∀a,A=some a→w.heap.size≤a.block)∧(A'=X'∨ ∀a,A'=some a→w.heap.size≤a.block)
theorem madeLim_mkR{l':List (Int×Int)}{b':Int}(fa:A=X∨ ∀a,A=some a→w.heap.size≤a.block)(fb:A'=X'∨ ∀a,A'=some a→w.heap.size≤a.block)(hu:l=l')(hp:b=b')(h1:Nds w' w'.heap.size A l')(h2:Ris w' w'.heap.size A' u)(hb:Below w.heap.size w w'):
  MadeLimR X X' l u b w (.returned (.tuple #[.agg #[.slice A l'.length c,.slice A' u.length c'],.int .i64 b'])) w':=by
 subst hu;subst hp;exact⟨A,c,A',c',rfl,h1,h2,hb,fa,fb⟩
theorem rreserve_fresh(A A':Option Addr)(c c':Nat)(l:List (Int×Int))(u:List Int)(n x:Int)(w:World)(hl:Hid (Nds w w.heap.size A l))(hu:Hid (Ris w w.heap.size A' u))(hg:GoodSt l u)(hn:inI n)(hx0: -9223372036854775808≤x)(hx1:x≤9223372036854775807):
  Calls Tryz.prog 86 #[.agg #[.slice A l.length c,.slice A' u.length c'],.int .i64 n,.int .i64 x] w (MadeResR A A' l (resU l u n x) (resF l u n x) w):=by
 obtain⟨i0,hi,hz0,hz1,hz2⟩:=info_parts i64_info;have hw:=κ hg.wf;have hwu:=κ hg.wfi;have g1:=hg.few;have g2:(l.length:Int)≤32:=by omega
 have g3:(u.length:Int)≤32:=by rw[hg.len];omega
 have HG:=κ hg;obtain⟨P,hP⟩:=ν (pathF l 3 n);have HP:=κ hP;have p1:P.length≤3:=by rw[hP];exact path_le3 _ _ _
 clear hP hg;have b0:=γ w (.cells (vS A l.length c A' u.length c') 102) (.cells (vS none 0 0 none 0 0) 102);have k1:=κ ((Blk.fresh w 102 (vS A l.length c A' u.length c')).alloc (.cells (vS none 0 0 none 0 0) 102))
 have k2:Hid (Blk ((w.alloc (.cells (vS A l.length c A' u.length c') 102)).alloc (.cells (vS none 0 0 none 0 0) 102)) (w.heap.size+1) 102 (vS none 0 0 none 0 0)):=by
  have:=Blk.fresh (w.alloc (.cells (vS A l.length c A' u.length c') 102)) 102 (vS none 0 0 none 0 0);simp only[World.size_alloc]at this;exact this
 go_enter Tryz.func86,Tryz.ntmps86
 go_wp2_with fail
 refine(rpath_any A c l n _ (Rd.below' hl.out b0 b0.size) hw (by omega) hn).mono ?_;rintro e W3 ⟨A3,c3,rfl,hr3,hb3⟩;rw[←HP.out]at hr3 ⊢;have HR:=κ hr3;have b3:=below_step b0 hb3;have K1:=κ (Blk.below' k1.out hb3);have K2:=κ (Blk.below' k2.out hb3);have HL:=θ hl.out b3;have HU:=η hu.out b3;clear k1 k2 hb3 hr3 b0;have f0:=χ (K1.out.cell 0);have f1:=χ (K1.out.cell 1);have r0:=χ (K2.out.cell 0);have r1:=χ (K2.out.cell 1);have y0:=K2.out.thaw 0;have y1:=K2.out.thaw 1;have t3:=(b3.setCell (p:=(α (w.heap.size+1) 0)) (by simp) (.slice A l.length c)).setCell (p:=(α (w.heap.size+1) 1)) (by simp) (.slice A' u.length c');have T1:Hid (Nds ((W3.setCell (α (w.heap.size+1) 0) (.slice A l.length c)).setCell (α (w.heap.size+1) 1) (.slice A' u.length c')) _ A l):=Rd.below' hl.out t3 t3.size;have T2:Hid (Ris ((W3.setCell (α (w.heap.size+1) 0) (.slice A l.length c)).setCell (α (w.heap.size+1) 1) (.slice A' u.length c')) _ A' u):=Rd.below' hu.out t3 t3.size;have t4:((W3.setCell (α (w.heap.size+1) 0) (.slice A l.length c)).setCell (α (w.heap.size+1) 1) (.slice A' u.length c')).cell? (α (w.heap.size+1) 0)=some (.slice A l.length c):=by rw[(blk_set (blk_set K2.out 0 _) 1 _).cell];rfl
 have t5:((W3.setCell (α (w.heap.size+1) 0) (.slice A l.length c)).setCell (α (w.heap.size+1) 1) (.slice A' u.length c')).cell? (α (w.heap.size+1) 1)=some (.slice A' u.length c'):=by rw[(blk_set (blk_set K2.out 0 _) 1 _).cell];rfl
 by_cases hp0:P.length=0
 ·have q0:((P.length:Int)==0)=true:=beq_iff_eq.2 (by omega);have hres:Hid (resF l u n x=(18,-1)):=by show _=_;rw[resF,←HP.out,if_pos hp0]
  have hresu:Hid (resU l u n x=u):=by show _=_;rw[resU,hres.out];rfl
  clear hp0
  go_wp2_with fail
  exact bodyPost_ret (v:= .tuple #[.agg #[.slice A l.length c,.slice A' u.length c'],ι 18,ι (-1)]) (by simp[results,Tryz.results86,go_sem,t4,t5]) rfl (madeRes_mkR (fa:=(by first|exact .inl rfl|exact .inr (fun a ha=>by have e9:=Option.some.inj ha;rw[←e9];exact Nat.le_trans b3.size hg5a))) (fb:=(by first|exact .inl rfl|exact .inr (fun a ha=>by have e9:=Option.some.inj ha;rw[←e9];exact Nat.le_trans b3.size hg5a))) hresu.out hres.out T1.out T2.out t3)
 have q0:((P.length:Int)==0)=false:=beq_eq_false_iff_ne.2 (by omega);by_cases hx:x<0
 ·have hres:Hid (resF l u n x=(1,-1)):=by show _=_;rw[resF,←HP.out,if_neg hp0,if_pos hx]
  have hresu:Hid (resU l u n x=u):=by show _=_;rw[resU,hres.out];rfl
  clear hp0
  go_wp2_with fail
  exact bodyPost_ret (v:= .tuple #[.agg #[.slice A l.length c,.slice A' u.length c'],ι 1,ι (-1)]) (by simp[results,Tryz.results86,go_sem,t4,t5]) rfl (madeRes_mkR (fa:=(by first|exact .inl rfl|exact .inr (fun a ha=>by have e9:=Option.some.inj ha;rw[←e9];exact Nat.le_trans b3.size hg5a))) (fb:=(by first|exact .inl rfl|exact .inr (fun a ha=>by have e9:=Option.some.inj ha;rw[←e9];exact Nat.le_trans b3.size hg5a))) hresu.out hres.out T1.out T2.out t3)
 have t4': ∀N,(((W3.drewN N).setCell (α (w.heap.size+1) 0) (.slice A l.length c)).setCell (α (w.heap.size+1) 1) (.slice A' u.length c')).cell? (α (w.heap.size+1) 0)=some (.slice A l.length c):=fun N=>t4
 have t5': ∀N,(((W3.drewN N).setCell (α (w.heap.size+1) 0) (.slice A l.length c)).setCell (α (w.heap.size+1) 1) (.slice A' u.length c')).cell? (α (w.heap.size+1) 1)=some (.slice A' u.length c'):=fun N=>t5
 have TN:Hid (∀N,Nds (((W3.drewN N).setCell (α (w.heap.size+1) 0) (.slice A l.length c)).setCell (α (w.heap.size+1) 1) (.slice A' u.length c')) (((W3.drewN N).setCell (α (w.heap.size+1) 0) (.slice A l.length c)).setCell (α (w.heap.size+1) 1) (.slice A' u.length c')).heap.size A l∧Ris (((W3.drewN N).setCell (α (w.heap.size+1) 0) (.slice A l.length c)).setCell (α (w.heap.size+1) 1) (.slice A' u.length c')) (((W3.drewN N).setCell (α (w.heap.size+1) 0) (.slice A l.length c)).setCell (α (w.heap.size+1) 1) (.slice A' u.length c')).heap.size A' u∧Below w.heap.size w (((W3.drewN N).setCell (α (w.heap.size+1) 0) (.slice A l.length c)).setCell (α (w.heap.size+1) 1) (.slice A' u.length c'))):=fun N=>⟨T1.out,T2.out,⟨t3.os,t3.tape,t3.output,t3.size,t3.block⟩⟩
 clear t4 t5 t3 T1 T2;have hres:Hid (resF l u n x=resS l u x P 12):=by show _=_;rw[resF,←HP.out,if_neg hp0,if_neg hx]
 have hxf:decide (x<0)=false:=by simp;omega
 have happ:Hid (Apart u.length P):=by rw[HP.out];exact apart_path HG.out.okt HG.out.len n
 clear hp0
 go_wp2_with fail
 obtain⟨b1,o1,rfl,hb1,hc1⟩:=Nds.at HL.out (by have:=HG.out.one;omega);obtain⟨b2,o2,rfl,hb2,hc2⟩:=Ris.at (i:=0) HU.out (by rw[HG.out.len];have:=HG.out.one;omega);have HC1:=κ hc1;have HC2:=κ hc2;clear hc1 hc2
 go_loopg [10] P.length (fun g s10 w'=> ∃(k nq:Nat),k+g=P.length∧s10= ι k∧Hid (resS l u x (P.drop k) (12+k)=resS l u x P 12)∧w'=W3.drewN nq)
 case atStart=>exact⟨0,0,by omega,rfl,rfl,rfl⟩
 case round=>
  obtain⟨k,nq,hk,rfl,hall,rfl⟩:=hrel;by_cases hlt:(k:Int)<(P.length:Int)
  ·obtain⟨g,rfl⟩: ∃g,gk=g+1:=⟨gk-1,by omega⟩;have hm:=happ.out.1 k (by omega);obtain⟨m,hmm⟩:=ν (gI P k);have HM:=κ hmm;rw[←hmm]at hm;obtain⟨hm0,hm1⟩:=hm;obtain⟨b,o,rfl,hb,hcc⟩:=Ris.at (i:=k) HR.out (by omega);have d0:=hcc k (by omega);rw[←hmm]at d0;have hml:m.toNat<l.length:=by rw[←HG.out.len];omega
   have hml':m<l.length:=by omega
   have d1:=HC2.out m.toNat (by omega);have d2:=(HC1.out m.toNat hml).2;have hu1:=HG.out.uok m.toNat (by omega);have hl1:=HG.out.okt m.toNat hml;obtain⟨hu1a,hu1b⟩:=hu1;obtain⟨_,_,hl1a,hl1b,_⟩:=hl1;clear hcc hmm;by_cases hfit:nC l m.toNat-gI u m.toNat<x
   ·have hres':Hid (resF l u n x=(12+(k:Int),m)):=by
     show _=_;rw[hres.out,←hall.out,resS_no (by omega) (by rw[←HM.out];exact hfit),HM.out]
    have hresu:Hid (resU l u n x=u):=by
     show _=_;rw[resU,hres'.out,if_neg (by show ¬(12+(k:Int))=0;omega)]
    have hbne:=blk_ne K2.out d0;have e1:=fun N:Nat=>far2 (x:= .slice (some (α b1 o1)) l.length c) (y:= .slice (some (α b2 o2)) u.length c') d0 hbne N
    go_wp2_with fail
    go_quiet (fail)
    go_wp2_with fail
    go_region
    all_goals
     go_wp2_with fail
     exact bodyPost_ret (v:= .tuple #[.agg #[.slice (some (α b1 o1)) l.length c,.slice (some (α b2 o2)) u.length c'],ι (12+(k:Int)),ι m]) (by simp[results,Tryz.results86,go_sem,t4',t5']) rfl (madeRes_mkR (fa:=(by first|exact .inl rfl|exact .inr (fun a ha=>by have e9:=Option.some.inj ha;rw[←e9];exact Nat.le_trans b3.size hg5a))) (fb:=(by first|exact .inl rfl|exact .inr (fun a ha=>by have e9:=Option.some.inj ha;rw[←e9];exact Nat.le_trans b3.size hg5a))) hresu.out hres'.out (TN.out _).1 (TN.out _).2.1 (TN.out _).2.2)
   ·have hall':Hid (resS l u x (P.drop (k+1)) (12+((k+1:Nat):Int))=resS l u x P 12):=by
     show _=_;have hgo:=resS_go (l:=l) (u:=u) (p:=P) (x:=x) (c:=12+(k:Int)) (k:=k) (by omega) (by rw[←HM.out];exact hfit);rw[←hall.out,hgo]
     congr 1
    go_wp2_with fail
    go_quiet (fail)
    go_wp2_with fail
    go_roundg g
    case measure=>omega
    case rel=>exact⟨k+1,_,by omega,by go_num,hall',rfl⟩
  ·have hc0:Hid (resF l u n x=(0,-1)):=by
    show _=_;rw[hres.out,←hall.out,show k=P.length by omega];exact resS_end
   have hcu:Hid (resU l u n x=addF u P x):=by
    show _=_;rw[resU,hc0.out,if_pos rfl,←HP.out]
   have hokx:Hid (∀i,i<P.length→x≤nC l (gI P i).toNat-gI u (gI P i).toNat):=by
    have h1:(resS l u x P 12).1=0:=by rw[←hres.out,hc0.out]
    exact resS_ok P 12 (by decide) h1
   have howa:Hid (((W3.drewN (nq+1)).alloc (.cells #[] 2)).ownsRow W3.heap.size 2 1 (.slice (some (α W3.heap.size 0)) 0 0) 0 []):=own_empty (by exact Blk.fresh (W3.drewN (nq+1)) _ _) (by simp);have hbla:Below W3.heap.size W3 ((W3.drewN (nq+1)).alloc (.cells #[] 2)):=(Below.drewN' ψ _).alloc τ _;have hrda:=κ (Rd.below HU.out hbla);have hka:=κ (Blk.below' K1.out hbla);have howb:Hid ((((W3.drewN (nq+1)).alloc (.cells #[] 2)).alloc (.cells (vS none 0 0 none 0 0) 102)).ownsRow W3.heap.size 2 1 (.slice (some (α W3.heap.size 0)) 0 0) 0 []):=own_empty (by exact(Blk.fresh (W3.drewN (nq+1)) _ _).alloc _) (by simp);have hblb:Below W3.heap.size W3 (((W3.drewN (nq+1)).alloc (.cells #[] 2)).alloc (.cells (vS none 0 0 none 0 0) 102)):=((Below.drewN' ψ _).alloc τ _).alloc (by simp[World.drewN]) _;have hrdb:=κ (Rd.below HU.out hblb);have hkb:=κ (Blk.below' K1.out hblb);have howc:Hid ((((W3.drewN (nq+1)).alloc (.cells (vS none 0 0 none 0 0) 102)).alloc (.cells #[] 2)).ownsRow (W3.heap.size+1) 2 1 (.slice (some (α (W3.heap.size+1) 0)) 0 0) 0 []):=own_empty (by have:=Blk.fresh ((W3.drewN (nq+1)).alloc (.cells (vS none 0 0 none 0 0) 102)) 2 #[];simp only[World.size_alloc]at this;exact this) (by simp);have hblc:Below W3.heap.size W3 (((W3.drewN (nq+1)).alloc (.cells (vS none 0 0 none 0 0) 102)).alloc (.cells #[] 2)):=((Below.drewN' ψ _).alloc τ _).alloc (by simp[World.drewN]) _;have hrdc:=κ (Rd.below HU.out hblc);have hkc:=κ (Blk.below' K1.out hblc)
   have hsb:Hid (Blk (((W3.drewN (nq+1)).alloc (.cells #[] 2)).alloc (.cells (vS none 0 0 none 0 0) 102)) (W3.heap.size+1) 102 (vS none 0 0 none 0 0)):=by
    have:=Blk.fresh ((W3.drewN (nq+1)).alloc (.cells #[] 2)) 102 (vS none 0 0 none 0 0);simp only[World.size_alloc]at this;exact this
   have hsc:Hid (Blk (((W3.drewN (nq+1)).alloc (.cells (vS none 0 0 none 0 0) 102)).alloc (.cells #[] 2)) W3.heap.size 102 (vS none 0 0 none 0 0)):=(Blk.fresh (W3.drewN (nq+1)) _ _).alloc _;clear t4' t5'
   go_wp2_with fail
   go_region_held3 (fun w'=>w'.cell? ⟨w.heap.size,0,none⟩=some (.slice (some ⟨b1,o1,none⟩) l.length c)∧w'.cell? ⟨w.heap.size,1,none⟩=some (.slice (some ⟨b2,o2,none⟩) u.length c'))
    (first|go_keep|(exact⟨v0,v1⟩)|(exact⟨v2 _ _,v3 _ _⟩))
    (first
     |(refine step_appG (nm:=u.length) howa hrda (by simp) rfl _ _ _ rfl i0 (.int .i64 0) 8 Tryz.underlying78 hi hz0 hz1 hz2 rfl (by decide) rfl rfl (by rw[ints_len];omega) (ints_one u) (by unfold maxLen;omega) (by omega) (by first|(simp;done)|(simp;omega)) ?_;intro A5 c5 w5 hown5 hgr5;have hkk:=κ (Blk_grown hka.out hgr5 (by simp[Value.ownBlock];have:=K2.out.lt;omega));have v0:=χ (hkk.out.cell 0);have v1:=χ (hkk.out.cell 1))
     |(refine step_appG (nm:=u.length) howb hrdb (by simp) rfl _ _ _ rfl i0 (.int .i64 0) 8 Tryz.underlying78 hi hz0 hz1 hz2 rfl (by decide) rfl rfl (by rw[ints_len];omega) (ints_one u) (by unfold maxLen;omega) (by omega) (by first|(simp;done)|(simp;omega)) ?_;intro A5 c5 w5 hown5 hgr5;have hkk:=κ (Blk_grown hkb.out hgr5 (by simp[Value.ownBlock];have:=K2.out.lt;omega));have v0:=χ (hkk.out.cell 0);have v1:=χ (hkk.out.cell 1);have hst:=κ (Blk_grown hsb.out hgr5 (by simp[Value.ownBlock]));have s0:=χ (hst.out.cell 0);have s1:=χ (hst.out.cell 1);have s2:=hst.out.thaw 0;have s3:=hst.out.thaw 1;have v2:=ξ (fun x y=>(blk_far (blk_far hkk.out (p:=⟨W3.heap.size+1,0,none⟩) (by have:=K2.out.lt;simp;omega) x) (p:=⟨W3.heap.size+1,1,none⟩) (by have:=K2.out.lt;simp;omega) y).cell 0);have v3:=ξ (fun x y=>(blk_far (blk_far hkk.out (p:=⟨W3.heap.size+1,0,none⟩) (by have:=K2.out.lt;simp;omega) x) (p:=⟨W3.heap.size+1,1,none⟩) (by have:=K2.out.lt;simp;omega) y).cell 1))
     |(refine step_appG (nm:=u.length) howc hrdc (by simp) rfl _ _ _ rfl i0 (.int .i64 0) 8 Tryz.underlying78 hi hz0 hz1 hz2 rfl (by decide) rfl rfl (by rw[ints_len];omega) (ints_one u) (by unfold maxLen;omega) (by omega) (by first|(simp;done)|(simp;omega)) ?_;intro A5 c5 w5 hown5 hgr5;have hkk:=κ (Blk_grown hkc.out hgr5 (by simp[Value.ownBlock];have:=K2.out.lt;omega));have v0:=χ (hkk.out.cell 0);have v1:=χ (hkk.out.cell 1);have hst:=κ (Blk_grown hsc.out hgr5 (by simp[Value.ownBlock]));have s0:=χ (hst.out.cell 0);have s1:=χ (hst.out.cell 1);have s2:=hst.out.thaw 0;have s3:=hst.out.thaw 1;have v2:=ξ (fun x y=>(blk_far (blk_far hkk.out (p:=⟨W3.heap.size,0,none⟩) (by have:=K2.out.lt;simp;omega) x) (p:=⟨W3.heap.size,1,none⟩) (by have:=K2.out.lt;simp;omega) y).cell 0);have v3:=ξ (fun x y=>(blk_far (blk_far hkk.out (p:=⟨W3.heap.size,0,none⟩) (by have:=K2.out.lt;simp;omega) x) (p:=⟨W3.heap.size,1,none⟩) (by have:=K2.out.lt;simp;omega) y).cell 1)))
   have hsz5:W3.heap.size≤w5.heap.size:=by have:=hgr5.size;simp[World.drewN]at this;omega
   have hO:Hid (Blk (w5.alloc (.cells (vS (some (α b1 o1)) l.length c A5 u.length c5) 102)) w5.heap.size 102 (vS (some (α b1 o1)) l.length c A5 u.length c5)):=Blk.fresh w5 102 (vS (some (α b1 o1)) l.length c A5 u.length c5);have hB6:Below W3.heap.size W3 (w5.alloc (.cells (vS (some (α b1 o1)) l.length c A5 u.length c5) 102)):=(hbla.grown hgr5 (by first|(simp[World.drewN];done)|(simp[World.drewN];omega)) (by simp[Value.ownBlock])).alloc hsz5 _;have hown6:Hid ((w5.alloc (.cells (vS (some (α b1 o1)) l.length c A5 u.length c5) 102)).ownsRow W3.heap.size 2 1 (.slice A5 u.length c5) u.length (ints u)):=World.ownsRow.alloc hown5.out _;have hgO:W3.heap.size≤w5.heap.size:=by omega
   clear hgr5 hown5;generalize (w5.alloc (.cells (vS (some (α b1 o1)) l.length c A5 u.length c5) 102))=w6 at hO hB6 hown6 ⊢;generalize hgg:w5.heap.size=gO at hO hgO ⊢;clear hgg;rotate_left;have hsz5:W3.heap.size≤w5.heap.size:=by have:=hgr5.size;simp[World.drewN]at this;omega
   have hO:Hid (Blk ((w5.setCell (α (W3.heap.size+1) 0) (.slice (some (α b1 o1)) l.length c)).setCell (α (W3.heap.size+1) 1) (.slice A5 u.length c5)) (W3.heap.size+1) 102 (vS (some (α b1 o1)) l.length c A5 u.length c5)):=blk_set (blk_set hst.out 0 _) 1 _;have hB6:Below W3.heap.size W3 ((w5.setCell (α (W3.heap.size+1) 0) (.slice (some (α b1 o1)) l.length c)).setCell (α (W3.heap.size+1) 1) (.slice A5 u.length c5)):=((hblb.grown hgr5 (by first|(simp[World.drewN];done)|(simp[World.drewN];omega)) (by simp[Value.ownBlock])).setCell (by simp) _).setCell (by simp) _;have hown6:Hid (((w5.setCell (α (W3.heap.size+1) 0) (.slice (some (α b1 o1)) l.length c)).setCell (α (W3.heap.size+1) 1) (.slice A5 u.length c5)).ownsRow W3.heap.size 2 1 (.slice A5 u.length c5) u.length (ints u)):=own_set2 hown5.out hst.out (by decide) _ _;have hgO:W3.heap.size≤(W3.heap.size+1):=by omega
   clear hgr5 hown5;generalize ((w5.setCell (α (W3.heap.size+1) 0) (.slice (some (α b1 o1)) l.length c)).setCell (α (W3.heap.size+1) 1) (.slice A5 u.length c5))=w6 at hO hB6 hown6 ⊢;generalize hgg:(W3.heap.size+1)=gO at hO hgO ⊢;clear hgg;rotate_left;have hsz5:W3.heap.size≤w5.heap.size:=by have:=hgr5.size;simp[World.drewN]at this;omega
   have hO:Hid (Blk ((w5.setCell (α W3.heap.size 0) (.slice (some (α b1 o1)) l.length c)).setCell (α W3.heap.size 1) (.slice A5 u.length c5)) W3.heap.size 102 (vS (some (α b1 o1)) l.length c A5 u.length c5)):=blk_set (blk_set hst.out 0 _) 1 _;have hB6:Below W3.heap.size W3 ((w5.setCell (α W3.heap.size 0) (.slice (some (α b1 o1)) l.length c)).setCell (α W3.heap.size 1) (.slice A5 u.length c5)):=((hblc.grown hgr5 (by first|(simp[World.drewN];done)|(simp[World.drewN];omega)) (by simp[Value.ownBlock])).setCell (by simp) _).setCell (by simp) _;have hown6:Hid (((w5.setCell (α W3.heap.size 0) (.slice (some (α b1 o1)) l.length c)).setCell (α W3.heap.size 1) (.slice A5 u.length c5)).ownsRow W3.heap.size 2 1 (.slice A5 u.length c5) u.length (ints u)):=own_mono (own_set2 hown5.out hst.out (by decide) _ _) (by omega);have hgO:W3.heap.size≤W3.heap.size:=by omega
   clear hgr5 hown5;generalize ((w5.setCell (α W3.heap.size 0) (.slice (some (α b1 o1)) l.length c)).setCell (α W3.heap.size 1) (.slice A5 u.length c5))=w6 at hO hB6 hown6 ⊢;generalize hgg:W3.heap.size=gO at hO hgO ⊢;clear hgg;rotate_left
   all_goals
    clear hrda hrdb hrdc hbla hblb hblc howa howb howc hka hkb hkc hsb hsc
    go_wp2_with fail
   all_goals
    obtain⟨g5,rfl,hg5a,hg5b,hz1,hz2,hz3⟩:=own_at hown6.out (by rw[HG.out.len];have:=HG.out.one;omega);clear hz1 hz2 hz3;have h0w:=η HR.out hB6;have hrow0:Hid (w6.ownsRow W3.heap.size 2 1 (.slice (some (α g5 0)) u.length c5) u.length (ints (addF u (P.take 0) x))):=by rw[List.take_zero,addF_nil];exact hown6.out
    go_loopg [12] P.length (fun g s12 w'=> ∃k:Nat,k+g=P.length∧s12= ι k∧Hid (w'.ownsRow W3.heap.size 2 1 (.slice (some (α g5 0)) u.length c5) u.length (ints (addF u (P.take k) x)))∧Hid (Blk w' gO 102 (vS (some (α b1 o1)) l.length c (some (α g5 0)) u.length c5))∧Below W3.heap.size W3 w')
    case atStart=>exact⟨0,by omega,rfl,hrow0,hO,hB6⟩
    case round=>
     obtain⟨k,hk,rfl,hrow,hO,hbl⟩:=hrel;by_cases hlt:(k:Int)<(P.length:Int)
     ·obtain⟨g,rfl⟩: ∃g,gk=g+1:=⟨gk-1,by omega⟩;have hm:=happ.out.1 k (by omega);have hox:=hokx.out k (by omega);have hat:=addF_at (x:=x) happ.out (show k<P.length by omega);have hstep:=addF_step (x:=x) happ.out (show k<P.length by omega);obtain⟨m,hmm⟩:=ν (gI P k);rw[←hmm]at hm hox hat hstep;obtain⟨hm0,hm1⟩:=hm;obtain⟨b,o,rfl,hb,hcc⟩:=Ris.at (i:=k) HR.out (by omega);have d0:wr.cell? (α b (o+k))=some (ι m):=by rw[hmm];exact(hbl.cell (p:=(α b (o+k))) hb).trans (hcc k (by omega))
      have hml:m.toNat<l.length:=by rw[←HG.out.len];omega
      have hml':m<u.length:=by omega
      obtain⟨g5',hg5',hq1,hq2,hq3,hc2,hs2⟩:=own_at hrow.out (by rw[addF_len];omega);clear hq1 hq2 hq3;obtain rfl:g5=g5':=by injection hg5' with e;injection e
      have hcm:=hc2 m.toNat (by rw[addF_len];omega);rw[hat]at hcm;obtain⟨d1,d2⟩:=hcm;have hsm:=hs2 m.toNat (gI u m.toNat+x) (by rw[addF_len];omega);rw[hstep]at hsm;have hu1:=HG.out.uok m.toNat (by omega);have hl1:=HG.out.okt m.toNat hml;obtain⟨hu1a,hu1b⟩:=hu1;obtain⟨_,_,hl1a,hl1b,_⟩:=hl1;have d3:=χ (hO.out.cell 1)
      have hne1:gO≠g5:=by
       rintro rfl;rw[hO.out.cell]at d1;have:m.toNat=0∨m.toNat=1∨2≤m.toNat:=by omega
       rcases this with h|h|h
       ·rw[h]at d1;simp at d1
       ·rw[h]at d1;simp at d1
       ·rw[Array.getElem?_eq_none (by simpa using h)]at d1;cases d1
      have hne2:b≠g5:=by omega
      have d4:=ξ (fun y=>(blk_far hO.out (p:=(α g5 m.toNat)) (by simpa using hne1) y).cell 1)
      have d5: ∀y,(wr.setCell (α g5 m.toNat) y).cell? (α b (o+k))=some (ι m):=fun y=>by
       rw[World.cell?_setCell_other _ _ _ _ (by intro e;injection e with e;exact hne2 e.symm)];exact d0
      have hrow':=κ hsm;have hO':Hid (Blk (wr.setCell (α g5 m.toNat) (ι (gI u m.toNat+x))) gO 102 (vS (some (α b1 o1)) l.length c (some (α g5 0)) u.length c5)):=blk_far hO.out (p:=(α g5 m.toNat)) (by simpa using hne1) _;have hbl':Below W3.heap.size W3 (wr.setCell (α g5 m.toNat) (ι (gI u m.toNat+x))):=hbl.setCell (by simpa using hg5a) _;clear hcc hmm hat hstep hc2 hs2 hsm hrow
      go_wp2_with fail
      go_region
      all_goals
       go_wp2_with fail
       go_roundg g
       case measure=>omega
       case rel=>exact⟨k+1,by omega,by go_num,hrow',hO',hbl'.drew⟩
     ·have hrowf:Hid (wr.ownsRow W3.heap.size 2 1 (.slice (some (α g5 0)) u.length c5) u.length (ints (addF u P x))):=by
       have:k=P.length:=by omega
       subst this;rw[addF_full]at hrow;exact hrow
      have hlen:Hid (u.length=(addF u P x).length):=(addF_len _ _ _).symm;have hK2:=κ (Blk.below K2.out hbl K2.out.lt);have hKlt:=K2.out.lt;have d2:=χ (hO.out.cell 0);have d3:=χ (hO.out.cell 1);have r0:=χ (hK2.out.cell 0);have r1:=χ (hK2.out.cell 1);have y0:=hK2.out.thaw 0;have y1:=hK2.out.thaw 1;have bF:=((below_step b3 hbl).setCell (p:=(α (w.heap.size+1) 0)) (by simp) (.slice (some (α b1 o1)) l.length c)).setCell (p:=(α (w.heap.size+1) 1)) (by simp) (.slice (some (α g5 0)) u.length c5);have T1:=κ (Rd.below' hl.out bF bF.size);have T2:=κ (Rd.of_own (ownsRow_setCell_below (ownsRow_setCell_below hrowf.out (a:=(α (w.heap.size+1) 0)) hKlt (.slice (some (α b1 o1)) l.length c)) (a:=(α (w.heap.size+1) 1)) hKlt (.slice (some (α g5 0)) u.length c5)));have hend:=κ (madeRes_mkR (X:=some (α b1 o1)) (X':=some (α b2 o2)) (fa:=(by first|exact .inl rfl|exact .inr (fun a ha=>by have e9:=Option.some.inj ha;rw[←e9];exact Nat.le_trans b3.size hg5a))) (fb:=(by first|exact .inl rfl|exact .inr (fun a ha=>by have e9:=Option.some.inj ha;rw[←e9];exact Nat.le_trans b3.size hg5a))) (A:=some (α b1 o1)) (A':=some (α g5 0)) (c:=c) (c':=c5) hcu.out hc0.out T1.out T2.out bF);rw[←hlen.out]at hend;have kf:=blk_set (blk_set hK2.out 0 (.slice (some (α b1 o1)) l.length c)) 1 (.slice (some (α g5 0)) u.length c5);have t4:((wr.setCell (α (w.heap.size+1) 0) (.slice (some (α b1 o1)) l.length c)).setCell (α (w.heap.size+1) 1) (.slice (some (α g5 0)) u.length c5)).cell? (α (w.heap.size+1) 0)=some (.slice (some (α b1 o1)) l.length c):=by rw[kf.cell];rfl
      have t5:((wr.setCell (α (w.heap.size+1) 0) (.slice (some (α b1 o1)) l.length c)).setCell (α (w.heap.size+1) 1) (.slice (some (α g5 0)) u.length c5)).cell? (α (w.heap.size+1) 1)=some (.slice (some (α g5 0)) u.length c5):=by rw[kf.cell];rfl
      clear kf bF
      go_wp2_with fail
      exact bodyPost_ret (v:= .tuple #[.agg #[.slice (some (α b1 o1)) l.length c,.slice (some (α g5 0)) u.length c5],ι 0,ι (-1)]) (by simp[results,Tryz.results86,go_sem,t4,t5]) rfl hend.out
theorem rrelease_fresh(A A':Option Addr)(c c':Nat)(l:List (Int×Int))(u:List Int)(n x:Int)(w:World)(hl:Hid (Nds w w.heap.size A l))(hu:Hid (Ris w w.heap.size A' u))(hg:GoodSt l u)(hn:inI n)(hx0: -9223372036854775808≤x)(hx1:x≤9223372036854775807):
  Calls Tryz.prog 121 #[.agg #[.slice A l.length c,.slice A' u.length c'],.int .i64 n,.int .i64 x] w (MadeRelR A A' l (relU l u n x) (relF l u n x) w):=by
 obtain⟨i0,hi,hz0,hz1,hz2⟩:=info_parts i64_info;have hw:=κ hg.wf;have hwu:=κ hg.wfi;have g1:=hg.few;have g2:(l.length:Int)≤32:=by omega
 have g3:(u.length:Int)≤32:=by rw[hg.len];omega
 have HG:=κ hg;obtain⟨P,hP⟩:=ν (pathF l 3 n);have HP:=κ hP;have p1:P.length≤3:=by rw[hP];exact path_le3 _ _ _
 clear hP hg;have b0:=γ w (.cells (vS A l.length c A' u.length c') 102) (.cells (vS none 0 0 none 0 0) 102);have k1:=κ ((Blk.fresh w 102 (vS A l.length c A' u.length c')).alloc (.cells (vS none 0 0 none 0 0) 102))
 have k2:Hid (Blk ((w.alloc (.cells (vS A l.length c A' u.length c') 102)).alloc (.cells (vS none 0 0 none 0 0) 102)) (w.heap.size+1) 102 (vS none 0 0 none 0 0)):=by
  have:=Blk.fresh (w.alloc (.cells (vS A l.length c A' u.length c') 102)) 102 (vS none 0 0 none 0 0);simp only[World.size_alloc]at this;exact this
 go_enter Tryz.func121,Tryz.ntmps121
 go_wp2_with fail
 refine(rpath_any A c l n _ (Rd.below' hl.out b0 b0.size) hw (by omega) hn).mono ?_;rintro e W3 ⟨A3,c3,rfl,hr3,hb3⟩;rw[←HP.out]at hr3 ⊢;have HR:=κ hr3;have b3:=below_step b0 hb3;have K1:=κ (Blk.below' k1.out hb3);have K2:=κ (Blk.below' k2.out hb3);have HL:=θ hl.out b3;have HU:=η hu.out b3;clear k1 k2 hb3 hr3 b0;have f0:=χ (K1.out.cell 0);have f1:=χ (K1.out.cell 1);have r0:=χ (K2.out.cell 0);have r1:=χ (K2.out.cell 1);have y0:=K2.out.thaw 0;have y1:=K2.out.thaw 1;have t3:=(b3.setCell (p:=(α (w.heap.size+1) 0)) (by simp) (.slice A l.length c)).setCell (p:=(α (w.heap.size+1) 1)) (by simp) (.slice A' u.length c');have T1:Hid (Nds ((W3.setCell (α (w.heap.size+1) 0) (.slice A l.length c)).setCell (α (w.heap.size+1) 1) (.slice A' u.length c')) _ A l):=Rd.below' hl.out t3 t3.size;have T2:Hid (Ris ((W3.setCell (α (w.heap.size+1) 0) (.slice A l.length c)).setCell (α (w.heap.size+1) 1) (.slice A' u.length c')) _ A' u):=Rd.below' hu.out t3 t3.size;have t4:((W3.setCell (α (w.heap.size+1) 0) (.slice A l.length c)).setCell (α (w.heap.size+1) 1) (.slice A' u.length c')).cell? (α (w.heap.size+1) 0)=some (.slice A l.length c):=by rw[(blk_set (blk_set K2.out 0 _) 1 _).cell];rfl
 have t5:((W3.setCell (α (w.heap.size+1) 0) (.slice A l.length c)).setCell (α (w.heap.size+1) 1) (.slice A' u.length c')).cell? (α (w.heap.size+1) 1)=some (.slice A' u.length c'):=by rw[(blk_set (blk_set K2.out 0 _) 1 _).cell];rfl
 by_cases hp0:P.length=0
 ·have q0:((P.length:Int)==0)=true:=beq_iff_eq.2 (by omega);have hres:Hid (relF l u n x=false):=relF_0 (by rw[←HP.out];exact hp0);have hresu:Hid (relU l u n x=u):=by show _=_;rw[relU,hres.out];rfl
  clear hp0
  go_wp2_with fail
  exact bodyPost_ret (v:= .tuple #[.agg #[.slice A l.length c,.slice A' u.length c'],.bool false]) (by simp[results,Tryz.results121,go_sem,t4,t5]) rfl (madeRel_mkR (fa:=(by first|exact .inl rfl|exact .inr (fun a ha=>by have e9:=Option.some.inj ha;rw[←e9];exact Nat.le_trans b3.size hg5a))) (fb:=(by first|exact .inl rfl|exact .inr (fun a ha=>by have e9:=Option.some.inj ha;rw[←e9];exact Nat.le_trans b3.size hg5a))) hresu.out hres.out T1.out T2.out t3)
 have q0:((P.length:Int)==0)=false:=beq_eq_false_iff_ne.2 (by omega);by_cases hx:x<0
 ·have hres:Hid (relF l u n x=false):=relF_m hx;have hresu:Hid (relU l u n x=u):=by show _=_;rw[relU,hres.out];rfl
  clear hp0
  go_wp2_with fail
  exact bodyPost_ret (v:= .tuple #[.agg #[.slice A l.length c,.slice A' u.length c'],.bool false]) (by simp[results,Tryz.results121,go_sem,t4,t5]) rfl (madeRel_mkR (fa:=(by first|exact .inl rfl|exact .inr (fun a ha=>by have e9:=Option.some.inj ha;rw[←e9];exact Nat.le_trans b3.size hg5a))) (fb:=(by first|exact .inl rfl|exact .inr (fun a ha=>by have e9:=Option.some.inj ha;rw[←e9];exact Nat.le_trans b3.size hg5a))) hresu.out hres.out T1.out T2.out t3)
 clear t4 t5 t3 T1 T2 r0 r1 y0 y1;have hxf:decide (x<0)=false:=by simp;omega
 have happ:Hid (Apart u.length P):=by rw[HP.out];exact apart_path HG.out.okt HG.out.len n
 have hp1:0<P.length:=by omega
 clear hp0;obtain⟨b1,o1,rfl,hb1,hc1⟩:=Nds.at HL.out (by have:=HG.out.one;omega);obtain⟨b2,o2,rfl,hb2,hc2⟩:=Ris.at (i:=0) HU.out (by rw[HG.out.len];have:=HG.out.one;omega);have HC1:=κ hc1;have HC2:=κ hc2;clear hc1 hc2;have howa:Hid ((W3.drew.alloc (.cells #[] 2)).ownsRow W3.heap.size 2 1 (.slice (some (α W3.heap.size 0)) 0 0) 0 []):=own_empty (by exact Blk.fresh W3.drew _ _) (by simp);have hbla:Below W3.heap.size W3 (W3.drew.alloc (.cells #[] 2)):=(ψ.drew).alloc τ _;have hrda:=κ (Rd.below HU.out hbla);have hka:=κ (Blk.below' K1.out hbla);have howb:Hid (((W3.drew.alloc (.cells #[] 2)).alloc (.cells (vS none 0 0 none 0 0) 102)).ownsRow W3.heap.size 2 1 (.slice (some (α W3.heap.size 0)) 0 0) 0 []):=own_empty (by exact(Blk.fresh W3.drew _ _).alloc _) (by simp);have hblb:Below W3.heap.size W3 ((W3.drew.alloc (.cells #[] 2)).alloc (.cells (vS none 0 0 none 0 0) 102)):=((ψ.drew).alloc τ _).alloc (by first|(simp;done)|(simp;omega)) _;have hrdb:=κ (Rd.below HU.out hblb);have hkb:=κ (Blk.below' K1.out hblb);have howc:Hid (((W3.drew.alloc (.cells (vS none 0 0 none 0 0) 102)).alloc (.cells #[] 2)).ownsRow (W3.heap.size+1) 2 1 (.slice (some (α (W3.heap.size+1) 0)) 0 0) 0 []):=own_empty (by have:=Blk.fresh (W3.drew.alloc (.cells (vS none 0 0 none 0 0) 102)) 2 #[];simp only[World.size_alloc]at this;exact this) (by simp);have hblc:Below W3.heap.size W3 ((W3.drew.alloc (.cells (vS none 0 0 none 0 0) 102)).alloc (.cells #[] 2)):=((ψ.drew).alloc τ _).alloc (by first|(simp;done)|(simp;omega)) _;have hrdc:=κ (Rd.below HU.out hblc);have hkc:=κ (Blk.below' K1.out hblc)
 have hsb:Hid (Blk ((W3.drew.alloc (.cells #[] 2)).alloc (.cells (vS none 0 0 none 0 0) 102)) (W3.heap.size+1) 102 (vS none 0 0 none 0 0)):=by
  have:=Blk.fresh (W3.drew.alloc (.cells #[] 2)) 102 (vS none 0 0 none 0 0);simp only[World.size_alloc]at this;exact this
 have hsc:Hid (Blk ((W3.drew.alloc (.cells (vS none 0 0 none 0 0) 102)).alloc (.cells #[] 2)) W3.heap.size 102 (vS none 0 0 none 0 0)):=(Blk.fresh W3.drew _ _).alloc _
 go_wp2_with fail
 go_region_held3 (fun w'=>w'.cell? ⟨w.heap.size,0,none⟩=some (.slice (some ⟨b1,o1,none⟩) l.length c)∧w'.cell? ⟨w.heap.size,1,none⟩=some (.slice (some ⟨b2,o2,none⟩) u.length c'))
  (first|go_keep|(exact⟨v0,v1⟩)|(exact⟨v2 _ _,v3 _ _⟩))
  (first
   |(refine step_appG (nm:=u.length) howa hrda (by simp) rfl _ _ _ rfl i0 (.int .i64 0) 8 Tryz.underlying78 hi hz0 hz1 hz2 rfl (by decide) rfl rfl (by rw[ints_len];omega) (ints_one u) (by unfold maxLen;omega) (by omega) (by first|(simp;done)|(simp;omega)) ?_;intro A5 c5 w5 hown5 hgr5;have hkk:=κ (Blk_grown hka.out hgr5 (by simp[Value.ownBlock];have:=K2.out.lt;omega));have v0:=χ (hkk.out.cell 0);have v1:=χ (hkk.out.cell 1))
   |(refine step_appG (nm:=u.length) howb hrdb (by simp) rfl _ _ _ rfl i0 (.int .i64 0) 8 Tryz.underlying78 hi hz0 hz1 hz2 rfl (by decide) rfl rfl (by rw[ints_len];omega) (ints_one u) (by unfold maxLen;omega) (by omega) (by first|(simp;done)|(simp;omega)) ?_;intro A5 c5 w5 hown5 hgr5;have hkk:=κ (Blk_grown hkb.out hgr5 (by simp[Value.ownBlock];have:=K2.out.lt;omega));have v0:=χ (hkk.out.cell 0);have v1:=χ (hkk.out.cell 1);have hst:=κ (Blk_grown hsb.out hgr5 (by simp[Value.ownBlock]));have s0:=χ (hst.out.cell 0);have s1:=χ (hst.out.cell 1);have s2:=hst.out.thaw 0;have s3:=hst.out.thaw 1;have v2:=ξ (fun x y=>(blk_far (blk_far hkk.out (p:=⟨W3.heap.size+1,0,none⟩) (by have:=K2.out.lt;simp;omega) x) (p:=⟨W3.heap.size+1,1,none⟩) (by have:=K2.out.lt;simp;omega) y).cell 0);have v3:=ξ (fun x y=>(blk_far (blk_far hkk.out (p:=⟨W3.heap.size+1,0,none⟩) (by have:=K2.out.lt;simp;omega) x) (p:=⟨W3.heap.size+1,1,none⟩) (by have:=K2.out.lt;simp;omega) y).cell 1))
   |(refine step_appG (nm:=u.length) howc hrdc (by simp) rfl _ _ _ rfl i0 (.int .i64 0) 8 Tryz.underlying78 hi hz0 hz1 hz2 rfl (by decide) rfl rfl (by rw[ints_len];omega) (ints_one u) (by unfold maxLen;omega) (by omega) (by first|(simp;done)|(simp;omega)) ?_;intro A5 c5 w5 hown5 hgr5;have hkk:=κ (Blk_grown hkc.out hgr5 (by simp[Value.ownBlock];have:=K2.out.lt;omega));have v0:=χ (hkk.out.cell 0);have v1:=χ (hkk.out.cell 1);have hst:=κ (Blk_grown hsc.out hgr5 (by simp[Value.ownBlock]));have s0:=χ (hst.out.cell 0);have s1:=χ (hst.out.cell 1);have s2:=hst.out.thaw 0;have s3:=hst.out.thaw 1;have v2:=ξ (fun x y=>(blk_far (blk_far hkk.out (p:=⟨W3.heap.size,0,none⟩) (by have:=K2.out.lt;simp;omega) x) (p:=⟨W3.heap.size,1,none⟩) (by have:=K2.out.lt;simp;omega) y).cell 0);have v3:=ξ (fun x y=>(blk_far (blk_far hkk.out (p:=⟨W3.heap.size,0,none⟩) (by have:=K2.out.lt;simp;omega) x) (p:=⟨W3.heap.size,1,none⟩) (by have:=K2.out.lt;simp;omega) y).cell 1)))
 have hsz5:W3.heap.size≤w5.heap.size:=by have:=hgr5.size;simp at this;omega
 have hO:Hid (Blk (w5.alloc (.cells (vS (some (α b1 o1)) l.length c A5 u.length c5) 102)) w5.heap.size 102 (vS (some (α b1 o1)) l.length c A5 u.length c5)):=Blk.fresh w5 102 (vS (some (α b1 o1)) l.length c A5 u.length c5);have hB6:Below W3.heap.size W3 (w5.alloc (.cells (vS (some (α b1 o1)) l.length c A5 u.length c5) 102)):=(hbla.grown hgr5 (by first|(simp;done)|(simp;omega)) (by simp[Value.ownBlock])).alloc hsz5 _;have hown6:Hid ((w5.alloc (.cells (vS (some (α b1 o1)) l.length c A5 u.length c5) 102)).ownsRow W3.heap.size 2 1 (.slice A5 u.length c5) u.length (ints u)):=World.ownsRow.alloc hown5.out _;have hgO:W3.heap.size≤w5.heap.size:=by omega
 clear hgr5 hown5;generalize (w5.alloc (.cells (vS (some (α b1 o1)) l.length c A5 u.length c5) 102))=w6 at hO hB6 hown6 ⊢;generalize hgg:w5.heap.size=gO at hO hgO ⊢;clear hgg;rotate_left;have hsz5:W3.heap.size≤w5.heap.size:=by have:=hgr5.size;simp at this;omega
 have hO:Hid (Blk ((w5.setCell (α (W3.heap.size+1) 0) (.slice (some (α b1 o1)) l.length c)).setCell (α (W3.heap.size+1) 1) (.slice A5 u.length c5)) (W3.heap.size+1) 102 (vS (some (α b1 o1)) l.length c A5 u.length c5)):=blk_set (blk_set hst.out 0 _) 1 _;have hB6:Below W3.heap.size W3 ((w5.setCell (α (W3.heap.size+1) 0) (.slice (some (α b1 o1)) l.length c)).setCell (α (W3.heap.size+1) 1) (.slice A5 u.length c5)):=((hblb.grown hgr5 (by first|(simp;done)|(simp;omega)) (by simp[Value.ownBlock])).setCell (by simp) _).setCell (by simp) _;have hown6:Hid (((w5.setCell (α (W3.heap.size+1) 0) (.slice (some (α b1 o1)) l.length c)).setCell (α (W3.heap.size+1) 1) (.slice A5 u.length c5)).ownsRow W3.heap.size 2 1 (.slice A5 u.length c5) u.length (ints u)):=own_set2 hown5.out hst.out (by decide) _ _;have hgO:W3.heap.size≤(W3.heap.size+1):=by omega
 clear hgr5 hown5;generalize ((w5.setCell (α (W3.heap.size+1) 0) (.slice (some (α b1 o1)) l.length c)).setCell (α (W3.heap.size+1) 1) (.slice A5 u.length c5))=w6 at hO hB6 hown6 ⊢;generalize hgg:(W3.heap.size+1)=gO at hO hgO ⊢;clear hgg;rotate_left;have hsz5:W3.heap.size≤w5.heap.size:=by have:=hgr5.size;simp at this;omega
 have hO:Hid (Blk ((w5.setCell (α W3.heap.size 0) (.slice (some (α b1 o1)) l.length c)).setCell (α W3.heap.size 1) (.slice A5 u.length c5)) W3.heap.size 102 (vS (some (α b1 o1)) l.length c A5 u.length c5)):=blk_set (blk_set hst.out 0 _) 1 _;have hB6:Below W3.heap.size W3 ((w5.setCell (α W3.heap.size 0) (.slice (some (α b1 o1)) l.length c)).setCell (α W3.heap.size 1) (.slice A5 u.length c5)):=((hblc.grown hgr5 (by first|(simp;done)|(simp;omega)) (by simp[Value.ownBlock])).setCell (by simp) _).setCell (by simp) _;have hown6:Hid (((w5.setCell (α W3.heap.size 0) (.slice (some (α b1 o1)) l.length c)).setCell (α W3.heap.size 1) (.slice A5 u.length c5)).ownsRow W3.heap.size 2 1 (.slice A5 u.length c5) u.length (ints u)):=own_mono (own_set2 hown5.out hst.out (by decide) _ _) (by omega);have hgO:W3.heap.size≤W3.heap.size:=by omega
 clear hgr5 hown5;generalize ((w5.setCell (α W3.heap.size 0) (.slice (some (α b1 o1)) l.length c)).setCell (α W3.heap.size 1) (.slice A5 u.length c5))=w6 at hO hB6 hown6 ⊢;generalize hgg:W3.heap.size=gO at hO hgO ⊢;clear hgg;rotate_left
 all_goals
  clear hrda hrdb hrdc hbla hblb hblc howa howb howc hka hkb hkc hsb hsc
  go_wp2_with fail
 all_goals
  obtain⟨g5,rfl,hg5a,hg5b,hz1,hz2,hz3⟩:=own_at hown6.out (by rw[HG.out.len];have:=HG.out.one;omega);clear hz1 hz2 hz3;have h0w:=η HR.out hB6;have hrow0:Hid (w6.ownsRow W3.heap.size 2 1 (.slice (some (α g5 0)) u.length c5) u.length (ints (addF u (P.take 0) (-x)))):=by rw[List.take_zero,addF_nil];exact hown6.out
  go_loopg [10] P.length (fun g s10 w'=> ∃k:Nat,k+g=P.length∧s10= ι k∧Hid (∀i,i<k→x≤gI u (gI P i).toNat)∧Hid (w'.ownsRow W3.heap.size 2 1 (.slice (some (α g5 0)) u.length c5) u.length (ints (addF u (P.take k) (-x))))∧Hid (Blk w' gO 102 (vS (some (α b1 o1)) l.length c (some (α g5 0)) u.length c5))∧Below W3.heap.size W3 w')
  case atStart=>exact⟨0,by omega,rfl,fun i hi=>absurd hi (Nat.not_lt_zero i),hrow0,hO,hB6⟩
  case round=>
   obtain⟨k,hk,rfl,hall,hrow,hO,hbl⟩:=hrel;by_cases hlt:(k:Int)<(P.length:Int)
   ·obtain⟨g,rfl⟩: ∃g,gk=g+1:=⟨gk-1,by omega⟩;have hm:=happ.out.1 k (by omega);have hat:=addF_at (x:= -x) happ.out (show k<P.length by omega);have hstep:=addF_step (x:= -x) happ.out (show k<P.length by omega);obtain⟨m,hmm⟩:=ν (gI P k);have HM:=κ hmm;rw[←hmm]at hm hat hstep;obtain⟨hm0,hm1⟩:=hm;obtain⟨b,o,rfl,hb,hcc⟩:=Ris.at (i:=k) HR.out (by omega);have d0:wr.cell? (α b (o+k))=some (ι m):=by rw[hmm];exact(hbl.cell (p:=(α b (o+k))) hb).trans (hcc k (by omega))
    have hml:m.toNat<l.length:=by rw[←HG.out.len];omega
    have hml':m<u.length:=by omega
    obtain⟨g5',hg5',hq1,hq2,hq3,hc2,hs2⟩:=own_at hrow.out (by rw[addF_len];omega);clear hq1 hq2 hq3;obtain rfl:g5=g5':=by injection hg5' with e;injection e
    have hcm:=hc2 m.toNat (by rw[addF_len];omega);rw[hat]at hcm;obtain⟨d1,d2⟩:=hcm;have hsm:=hs2 m.toNat (gI u m.toNat-x) (by rw[addF_len];omega);rw[Int.sub_eq_add_neg,hstep]at hsm;have hu1:=HG.out.uok m.toNat (by omega);have hl1:=HG.out.okt m.toNat hml;obtain⟨hu1a,hu1b⟩:=hu1;obtain⟨_,_,hl1a,hl1b,_⟩:=hl1;have d3:=χ (hO.out.cell 1)
    have hne1:gO≠g5:=by
     rintro rfl;rw[hO.out.cell]at d1;have:m.toNat=0∨m.toNat=1∨2≤m.toNat:=by omega
     rcases this with h|h|h
     ·rw[h]at d1;simp at d1
     ·rw[h]at d1;simp at d1
     ·rw[Array.getElem?_eq_none (by simpa using h)]at d1;cases d1
    have hne2:b≠g5:=by omega
    have d4:=ξ (fun y=>(blk_far hO.out (p:=(α g5 m.toNat)) (by simpa using hne1) y).cell 1)
    have d5: ∀y,(wr.setCell (α g5 m.toNat) y).cell? (α b (o+k))=some (ι m):=fun y=>by
     rw[World.cell?_setCell_other _ _ _ _ (by intro e;injection e with e;exact hne2 e.symm)];exact d0
    have hrow':Hid ((wr.setCell (α g5 m.toNat) (ι (gI u m.toNat-x))).ownsRow W3.heap.size 2 1 (.slice (some (α g5 0)) u.length c5) u.length (ints (addF u (P.take (k+1)) (-x)))):=hsm;have hO':Hid (Blk (wr.setCell (α g5 m.toNat) (ι (gI u m.toNat-x))) gO 102 (vS (some (α b1 o1)) l.length c (some (α g5 0)) u.length c5)):=blk_far hO.out (p:=(α g5 m.toNat)) (by simpa using hne1) _;have hbl':Below W3.heap.size W3 (wr.setCell (α g5 m.toNat) (ι (gI u m.toNat-x))):=hbl.setCell (by simpa using hg5a) _;clear hcc hmm hat hstep hc2 hs2 hsm hrow;by_cases hfit:gI u m.toNat<x
    ·have hres:=κ (relF_no (i:=k) (by rw[←HP.out];omega) (by rw[←HP.out,←HM.out];exact hfit));have hresu:Hid (relU l u n x=u):=by show _=_;rw[relU,hres.out];rfl
     have hK1:=κ (Blk.below K1.out hbl K1.out.lt);have hK2:=κ (Blk.below K2.out hbl K2.out.lt);have f0:=χ (hK1.out.cell 0);have f1:=χ (hK1.out.cell 1);have r0:=χ (hK2.out.cell 0);have r1:=χ (hK2.out.cell 1);have y0:=hK2.out.thaw 0;have y1:=hK2.out.thaw 1;have bF:=((below_step b3 hbl).setCell (p:=(α (w.heap.size+1) 0)) (by simp) (.slice (some (α b1 o1)) l.length c)).setCell (p:=(α (w.heap.size+1) 1)) (by simp) (.slice (some (α b2 o2)) u.length c');have T1:=κ (Rd.below' hl.out bF bF.size);have T2:=κ (Rd.below' hu.out bF bF.size);have kf:=blk_set (blk_set hK2.out 0 (.slice (some (α b1 o1)) l.length c)) 1 (.slice (some (α b2 o2)) u.length c');have t4': ∀N,(((wr.drewN N).setCell (α (w.heap.size+1) 0) (.slice (some (α b1 o1)) l.length c)).setCell (α (w.heap.size+1) 1) (.slice (some (α b2 o2)) u.length c')).cell? (α (w.heap.size+1) 0)=some (.slice (some (α b1 o1)) l.length c):=fun N=>kf.cell 0
     have t5': ∀N,(((wr.drewN N).setCell (α (w.heap.size+1) 0) (.slice (some (α b1 o1)) l.length c)).setCell (α (w.heap.size+1) 1) (.slice (some (α b2 o2)) u.length c')).cell? (α (w.heap.size+1) 1)=some (.slice (some (α b2 o2)) u.length c'):=fun N=>kf.cell 1
     have BF:=κ bF;clear kf bF hall
     go_wp2_with fail
     go_quiet (fail)
     go_wp2_with fail
     exact bodyPost_ret (v:= .tuple #[.agg #[.slice (some (α b1 o1)) l.length c,.slice (some (α b2 o2)) u.length c'],.bool false]) (by simp[results,Tryz.results121,go_sem,t4',t5']) rfl (madeRel_mkR (fa:=(by first|exact .inl rfl|exact .inr (fun a ha=>by have e9:=Option.some.inj ha;rw[←e9];exact Nat.le_trans b3.size hg5a))) (fb:=(by first|exact .inl rfl|exact .inr (fun a ha=>by have e9:=Option.some.inj ha;rw[←e9];exact Nat.le_trans b3.size hg5a))) hresu.out hres.out T1.out T2.out ⟨BF.out.os,BF.out.tape,BF.out.output,BF.out.size,BF.out.block⟩)
    ·have hall':Hid (∀i,i<k+1→x≤gI u (gI P i).toNat):=fun i hi=>by
      by_cases e:i=k
      ·subst e;rw[←HM.out];omega
      ·exact hall.out i (by omega)
     go_wp2_with fail
     go_quiet (fail)
     go_wp2_with fail
     go_region
     all_goals
      go_wp2_with fail
      go_roundg g
      case measure=>omega
      case rel=>exact⟨k+1,by omega,by go_num,hall',hrow',hO',⟨hbl'.os,hbl'.tape,hbl'.output,hbl'.size,hbl'.block⟩⟩
   ·have hc0:=κ (relF_t (by rw[←HP.out];exact hp1) (by omega) (fun i hi=>by rw[←HP.out]at hi ⊢;exact hall.out i (by omega)));have hcu:Hid (relU l u n x=addF u P (-x)):=by show _=_;rw[relU,hc0.out,if_pos rfl,←HP.out]
    have hrowf:Hid (wr.ownsRow W3.heap.size 2 1 (.slice (some (α g5 0)) u.length c5) u.length (ints (addF u P (-x)))):=by
     have:k=P.length:=by omega
     subst this;rw[addF_full]at hrow;exact hrow
    have hlen:Hid (u.length=(addF u P (-x)).length):=(addF_len _ _ _).symm;have hK2:=κ (Blk.below K2.out hbl K2.out.lt);have hKlt:=K2.out.lt;have d2:=χ (hO.out.cell 0);have d3:=χ (hO.out.cell 1);have r0:=χ (hK2.out.cell 0);have r1:=χ (hK2.out.cell 1);have y0:=hK2.out.thaw 0;have y1:=hK2.out.thaw 1;have bF:=((below_step b3 hbl).setCell (p:=(α (w.heap.size+1) 0)) (by simp) (.slice (some (α b1 o1)) l.length c)).setCell (p:=(α (w.heap.size+1) 1)) (by simp) (.slice (some (α g5 0)) u.length c5);have T1:=κ (Rd.below' hl.out bF bF.size);have T2:=κ (Rd.of_own (ownsRow_setCell_below (ownsRow_setCell_below hrowf.out (a:=(α (w.heap.size+1) 0)) hKlt (.slice (some (α b1 o1)) l.length c)) (a:=(α (w.heap.size+1) 1)) hKlt (.slice (some (α g5 0)) u.length c5)));have hend:=κ (madeRel_mkR (X:=some (α b1 o1)) (X':=some (α b2 o2)) (fa:=(by first|exact .inl rfl|exact .inr (fun a ha=>by have e9:=Option.some.inj ha;rw[←e9];exact Nat.le_trans b3.size hg5a))) (fb:=(by first|exact .inl rfl|exact .inr (fun a ha=>by have e9:=Option.some.inj ha;rw[←e9];exact Nat.le_trans b3.size hg5a))) (A:=some (α b1 o1)) (A':=some (α g5 0)) (c:=c) (c':=c5) hcu.out hc0.out T1.out T2.out bF);rw[←hlen.out]at hend;have kf:=blk_set (blk_set hK2.out 0 (.slice (some (α b1 o1)) l.length c)) 1 (.slice (some (α g5 0)) u.length c5);have t4:((wr.setCell (α (w.heap.size+1) 0) (.slice (some (α b1 o1)) l.length c)).setCell (α (w.heap.size+1) 1) (.slice (some (α g5 0)) u.length c5)).cell? (α (w.heap.size+1) 0)=some (.slice (some (α b1 o1)) l.length c):=by rw[kf.cell];rfl
    have t5:((wr.setCell (α (w.heap.size+1) 0) (.slice (some (α b1 o1)) l.length c)).setCell (α (w.heap.size+1) 1) (.slice (some (α g5 0)) u.length c5)).cell? (α (w.heap.size+1) 1)=some (.slice (some (α g5 0)) u.length c5):=by rw[kf.cell];rfl
    clear kf bF
    go_wp2_with fail
    exact bodyPost_ret (v:= .tuple #[.agg #[.slice (some (α b1 o1)) l.length c,.slice (some (α g5 0)) u.length c5],.bool true]) (by simp[results,Tryz.results121,go_sem,t4,t5]) rfl hend.out
theorem rlimit_fresh(A A':Option Addr)(c c':Nat)(l:List (Int×Int))(u:List Int)(n x:Int)(w:World)(hl:Hid (Nds w w.heap.size A l))(hu:Hid (Ris w w.heap.size A' u))(hg:GoodSt l u)(hn:inI n)(hx0: -9223372036854775808≤x)(hx1:x≤9223372036854775807):
  Calls Tryz.prog 50 #[.agg #[.slice A l.length c,.slice A' u.length c'],.int .i64 n,.int .i64 x] w (MadeLimR A A' (limL l n x) u (limF l n x) w):=by
 obtain⟨i0,hi,hz0,hz1,hz2⟩:=info_parts rnode_info;have g1:=hg.few;have g2:(l.length:Int)≤32:=by omega
 have g3:(u.length:Int)≤32:=by rw[hg.len];omega
 obtain⟨hn0,hn1⟩:=hn;have HG:=κ hg;clear hg;obtain⟨W3,hW3⟩:=ν ((w.alloc (.cells #[.slice A l.length c,.slice A' u.length c'] 102)).alloc (.cells #[.slice none 0 0,.slice none 0 0] 102));have HW3:=κ hW3;have b3:Below w.heap.size w W3:=by rw[hW3];exact(ψ.alloc τ _).alloc (by simp) _
 have K1:Hid (Blk W3 w.heap.size 102 (vS A l.length c A' u.length c')):=by rw[hW3];exact(Blk.fresh w _ _).alloc _
 have K2:Hid (Blk W3 (w.heap.size+1) 102 (vS none 0 0 none 0 0)):=by
  have:=Blk.fresh (w.alloc (.cells (vS A l.length c A' u.length c') 102)) 102 (vS none 0 0 none 0 0);simp only[World.size_alloc]at this;rw[hW3];exact this
 have HL:=θ hl.out b3;have HU:=η hu.out b3;clear hW3;have f0:=χ (K1.out.cell 0);have f1:=χ (K1.out.cell 1);have r0:=χ (K2.out.cell 0);have r1:=χ (K2.out.cell 1);have y0:=K2.out.thaw 0;have y1:=K2.out.thaw 1;have T3:=γ w (.cells (vS A l.length c A' u.length c') 102) (.cells (vS A l.length c A' u.length c') 102);have T1:Hid (Nds ((w.alloc (.cells (vS A l.length c A' u.length c') 102)).alloc (.cells (vS A l.length c A' u.length c') 102)) _ A l):=Rd.below' hl.out T3 T3.size;have T2:Hid (Ris ((w.alloc (.cells (vS A l.length c A' u.length c') 102)).alloc (.cells (vS A l.length c A' u.length c') 102)) _ A' u):=Rd.below' hu.out T3 T3.size
 have kf:Blk ((w.alloc (.cells (vS A l.length c A' u.length c') 102)).alloc (.cells (vS A l.length c A' u.length c') 102)) (w.heap.size+1) 102 (vS A l.length c A' u.length c'):=by
  have:=Blk.fresh (w.alloc (.cells (vS A l.length c A' u.length c') 102)) 102 (vS A l.length c A' u.length c');simp only[World.size_alloc]at this;exact this
 have t4:=χ (kf.cell 0);have t5:=χ (kf.cell 1);clear kf;by_cases hin:inR l.length n=true
 ·obtain⟨hi0,hi1⟩:=inR_of hin;by_cases hx:x<0∨4611686018427387904<x
  ·have hres:Hid (limF l n x=1):=by show _=_;rw[limF,if_pos hin,if_pos hx]
   have hresu:Hid (limL l n x=l):=by show _=_;rw[limL,hres.out];rfl
   clear hin;by_cases hx2:x<0
   ·clear hx
    go_enter Tryz.func50,Tryz.ntmps50
    go_wp2_with fail
    exact bodyPost_ret (v:= .tuple #[.agg #[.slice A l.length c,.slice A' u.length c'],ι 1]) (by simp[results,Tryz.results50,go_sem,t4,t5]) rfl (madeLim_mkR (fa:=(by first|exact .inl rfl|exact .inr (fun a ha=>by have e9:=Option.some.inj ha;rw[←e9];exact Nat.le_trans b3.size hg5a))) (fb:=(by first|exact .inl rfl|exact .inr (fun a ha=>by have e9:=Option.some.inj ha;rw[←e9];exact Nat.le_trans b3.size hg5a))) hresu.out hres.out T1.out T2.out T3)
   ·have hx3:4611686018427387904<x:=by omega
    clear hx
    go_enter Tryz.func50,Tryz.ntmps50
    go_wp2_with fail
    exact bodyPost_ret (v:= .tuple #[.agg #[.slice A l.length c,.slice A' u.length c'],ι 1]) (by simp[results,Tryz.results50,go_sem,t4,t5]) rfl (madeLim_mkR (fa:=(by first|exact .inl rfl|exact .inr (fun a ha=>by have e9:=Option.some.inj ha;rw[←e9];exact Nat.le_trans b3.size hg5a))) (fb:=(by first|exact .inl rfl|exact .inr (fun a ha=>by have e9:=Option.some.inj ha;rw[←e9];exact Nat.le_trans b3.size hg5a))) hresu.out hres.out T1.out T2.out T3)
  have hres:Hid (limF l n x=0):=by show _=_;rw[limF,if_pos hin,if_neg hx]
  have hresu:Hid (limL l n x=l.set n.toNat (nP l n.toNat,x)):=by show _=_;rw[limL,hres.out];rfl
  have hxa:0≤x:=by omega
  have hxb:x≤4611686018427387904:=by omega
  have hnl:n.toNat<l.length:=by omega
  clear hx hin t4 t5 T1 T2 T3;have HN1:=HG.out.one;have HU1:1≤u.length:=by rw[HG.out.len];exact HG.out.one
  obtain⟨b1,o1,rfl,hb1,hc1⟩:=Nds.at HL.out (by omega);obtain⟨b2,o2,rfl,hb2,hc2⟩:=Ris.at (i:=0) HU.out (by omega);clear hc1 hc2
  go_enter Tryz.func50,Tryz.ntmps50
  go_wp2_with fail
  rw[←HW3.out];have howa:Hid ((W3.drew.alloc (.cells #[] 144)).ownsRow W3.heap.size 144 2 (.slice (some (α W3.heap.size 0)) 0 0) 0 []):=own_empty (by exact Blk.fresh W3.drew _ _) (by simp);have hbla:Below W3.heap.size W3 (W3.drew.alloc (.cells #[] 144)):=(ψ.drew).alloc τ _;have hrda:=κ (Rd.below HL.out hbla);have hka:=κ (Blk.below' K1.out hbla);have howb:Hid (((W3.drew.alloc (.cells #[] 144)).alloc (.cells (vS none 0 0 none 0 0) 102)).ownsRow W3.heap.size 144 2 (.slice (some (α W3.heap.size 0)) 0 0) 0 []):=own_empty (by exact(Blk.fresh W3.drew _ _).alloc _) (by simp);have hblb:Below W3.heap.size W3 ((W3.drew.alloc (.cells #[] 144)).alloc (.cells (vS none 0 0 none 0 0) 102)):=((ψ.drew).alloc τ _).alloc (by first|(simp;done)|(simp;omega)) _;have hrdb:=κ (Rd.below HL.out hblb);have hkb:=κ (Blk.below' K1.out hblb);have howc:Hid (((W3.drew.alloc (.cells (vS none 0 0 none 0 0) 102)).alloc (.cells #[] 144)).ownsRow (W3.heap.size+1) 144 2 (.slice (some (α (W3.heap.size+1) 0)) 0 0) 0 []):=own_empty (by have:=Blk.fresh (W3.drew.alloc (.cells (vS none 0 0 none 0 0) 102)) 144 #[];simp only[World.size_alloc]at this;exact this) (by simp);have hblc:Below W3.heap.size W3 ((W3.drew.alloc (.cells (vS none 0 0 none 0 0) 102)).alloc (.cells #[] 144)):=((ψ.drew).alloc τ _).alloc (by first|(simp;done)|(simp;omega)) _;have hrdc:=κ (Rd.below HL.out hblc);have hkc:=κ (Blk.below' K1.out hblc)
  have hsb:Hid (Blk ((W3.drew.alloc (.cells #[] 144)).alloc (.cells (vS none 0 0 none 0 0) 102)) (W3.heap.size+1) 102 (vS none 0 0 none 0 0)):=by
   have:=Blk.fresh (W3.drew.alloc (.cells #[] 144)) 102 (vS none 0 0 none 0 0);simp only[World.size_alloc]at this;exact this
  have hsc:Hid (Blk ((W3.drew.alloc (.cells (vS none 0 0 none 0 0) 102)).alloc (.cells #[] 144)) W3.heap.size 102 (vS none 0 0 none 0 0)):=(Blk.fresh W3.drew _ _).alloc _
  go_wp2_with fail
  go_region_held3 (fun w'=>w'.cell? ⟨w.heap.size,0,none⟩=some (.slice (some ⟨b1,o1,none⟩) l.length c)∧w'.cell? ⟨w.heap.size,1,none⟩=some (.slice (some ⟨b2,o2,none⟩) u.length c'))
   (first|go_keep|(exact⟨v0,v1⟩)|(exact⟨v2 _ _,v3 _ _⟩))
   (first
    |(refine step_appG (nm:=l.length) howa hrda (by simp) rfl _ _ _ rfl i0 (.agg #[.int .i64 0,.int .i64 0]) 16 Tryz.underlying22 hi hz0 hz1 hz2 rfl (by decide) rfl rfl (nds_len l) (nds_one l) (by unfold maxLen;omega) (by omega) (by first|(simp;done)|(simp;omega)) ?_;intro A5 c5 w5 hown5 hgr5;have hkk:=κ (Blk_grown hka.out hgr5 (by simp[Value.ownBlock];have:=K2.out.lt;omega));have v0:=χ (hkk.out.cell 0);have v1:=χ (hkk.out.cell 1))
    |(refine step_appG (nm:=l.length) howb hrdb (by simp) rfl _ _ _ rfl i0 (.agg #[.int .i64 0,.int .i64 0]) 16 Tryz.underlying22 hi hz0 hz1 hz2 rfl (by decide) rfl rfl (nds_len l) (nds_one l) (by unfold maxLen;omega) (by omega) (by first|(simp;done)|(simp;omega)) ?_;intro A5 c5 w5 hown5 hgr5;have hkk:=κ (Blk_grown hkb.out hgr5 (by simp[Value.ownBlock];have:=K2.out.lt;omega));have v0:=χ (hkk.out.cell 0);have v1:=χ (hkk.out.cell 1);have hst:=κ (Blk_grown hsb.out hgr5 (by simp[Value.ownBlock]));have s0:=χ (hst.out.cell 0);have s1:=χ (hst.out.cell 1);have s2:=hst.out.thaw 0;have s3:=hst.out.thaw 1;have v2:=ξ (fun x y=>(blk_far (blk_far hkk.out (p:=⟨W3.heap.size+1,0,none⟩) (by have:=K2.out.lt;simp;omega) x) (p:=⟨W3.heap.size+1,1,none⟩) (by have:=K2.out.lt;simp;omega) y).cell 0);have v3:=ξ (fun x y=>(blk_far (blk_far hkk.out (p:=⟨W3.heap.size+1,0,none⟩) (by have:=K2.out.lt;simp;omega) x) (p:=⟨W3.heap.size+1,1,none⟩) (by have:=K2.out.lt;simp;omega) y).cell 1))
    |(refine step_appG (nm:=l.length) howc hrdc (by simp) rfl _ _ _ rfl i0 (.agg #[.int .i64 0,.int .i64 0]) 16 Tryz.underlying22 hi hz0 hz1 hz2 rfl (by decide) rfl rfl (nds_len l) (nds_one l) (by unfold maxLen;omega) (by omega) (by first|(simp;done)|(simp;omega)) ?_;intro A5 c5 w5 hown5 hgr5;have hkk:=κ (Blk_grown hkc.out hgr5 (by simp[Value.ownBlock];have:=K2.out.lt;omega));have v0:=χ (hkk.out.cell 0);have v1:=χ (hkk.out.cell 1);have hst:=κ (Blk_grown hsc.out hgr5 (by simp[Value.ownBlock]));have s0:=χ (hst.out.cell 0);have s1:=χ (hst.out.cell 1);have s2:=hst.out.thaw 0;have s3:=hst.out.thaw 1;have v2:=ξ (fun x y=>(blk_far (blk_far hkk.out (p:=⟨W3.heap.size,0,none⟩) (by have:=K2.out.lt;simp;omega) x) (p:=⟨W3.heap.size,1,none⟩) (by have:=K2.out.lt;simp;omega) y).cell 0);have v3:=ξ (fun x y=>(blk_far (blk_far hkk.out (p:=⟨W3.heap.size,0,none⟩) (by have:=K2.out.lt;simp;omega) x) (p:=⟨W3.heap.size,1,none⟩) (by have:=K2.out.lt;simp;omega) y).cell 1)))
  have hsz5:W3.heap.size≤w5.heap.size:=by have:=hgr5.size;simp at this;omega
  have hO:Hid (Blk (w5.alloc (.cells (vS A5 l.length c5 (some (α b2 o2)) u.length c') 102)) w5.heap.size 102 (vS A5 l.length c5 (some (α b2 o2)) u.length c')):=Blk.fresh w5 102 (vS A5 l.length c5 (some (α b2 o2)) u.length c');have hB6:Below W3.heap.size W3 (w5.alloc (.cells (vS A5 l.length c5 (some (α b2 o2)) u.length c') 102)):=(hbla.grown hgr5 (by first|(simp;done)|(simp;omega)) (by simp[Value.ownBlock])).alloc hsz5 _;have hown6:Hid ((w5.alloc (.cells (vS A5 l.length c5 (some (α b2 o2)) u.length c') 102)).ownsRow W3.heap.size 144 2 (.slice A5 l.length c5) l.length (nds l)):=World.ownsRow.alloc hown5.out _;have hgO:W3.heap.size≤w5.heap.size:=by omega
  clear hgr5 hown5;generalize (w5.alloc (.cells (vS A5 l.length c5 (some (α b2 o2)) u.length c') 102))=w6 at hO hB6 hown6 ⊢;generalize hgg:w5.heap.size=gO at hO hgO ⊢;clear hgg;rotate_left;have hsz5:W3.heap.size≤w5.heap.size:=by have:=hgr5.size;simp at this;omega
  have hO:Hid (Blk ((w5.setCell (α (W3.heap.size+1) 0) (.slice A5 l.length c5)).setCell (α (W3.heap.size+1) 1) (.slice (some (α b2 o2)) u.length c')) (W3.heap.size+1) 102 (vS A5 l.length c5 (some (α b2 o2)) u.length c')):=blk_set (blk_set hst.out 0 _) 1 _;have hB6:Below W3.heap.size W3 ((w5.setCell (α (W3.heap.size+1) 0) (.slice A5 l.length c5)).setCell (α (W3.heap.size+1) 1) (.slice (some (α b2 o2)) u.length c')):=((hblb.grown hgr5 (by first|(simp;done)|(simp;omega)) (by simp[Value.ownBlock])).setCell (by simp) _).setCell (by simp) _;have hown6:Hid (((w5.setCell (α (W3.heap.size+1) 0) (.slice A5 l.length c5)).setCell (α (W3.heap.size+1) 1) (.slice (some (α b2 o2)) u.length c')).ownsRow W3.heap.size 144 2 (.slice A5 l.length c5) l.length (nds l)):=own_set2 hown5.out hst.out (by decide) _ _;have hgO:W3.heap.size≤(W3.heap.size+1):=by omega
  clear hgr5 hown5;generalize ((w5.setCell (α (W3.heap.size+1) 0) (.slice A5 l.length c5)).setCell (α (W3.heap.size+1) 1) (.slice (some (α b2 o2)) u.length c'))=w6 at hO hB6 hown6 ⊢;generalize hgg:(W3.heap.size+1)=gO at hO hgO ⊢;clear hgg;rotate_left;have hsz5:W3.heap.size≤w5.heap.size:=by have:=hgr5.size;simp at this;omega
  have hO:Hid (Blk ((w5.setCell (α W3.heap.size 0) (.slice A5 l.length c5)).setCell (α W3.heap.size 1) (.slice (some (α b2 o2)) u.length c')) W3.heap.size 102 (vS A5 l.length c5 (some (α b2 o2)) u.length c')):=blk_set (blk_set hst.out 0 _) 1 _;have hB6:Below W3.heap.size W3 ((w5.setCell (α W3.heap.size 0) (.slice A5 l.length c5)).setCell (α W3.heap.size 1) (.slice (some (α b2 o2)) u.length c')):=((hblc.grown hgr5 (by first|(simp;done)|(simp;omega)) (by simp[Value.ownBlock])).setCell (by simp) _).setCell (by simp) _;have hown6:Hid (((w5.setCell (α W3.heap.size 0) (.slice A5 l.length c5)).setCell (α W3.heap.size 1) (.slice (some (α b2 o2)) u.length c')).ownsRow W3.heap.size 144 2 (.slice A5 l.length c5) l.length (nds l)):=own_mono (own_set2 hown5.out hst.out (by decide) _ _) (by omega);have hgO:W3.heap.size≤W3.heap.size:=by omega
  clear hgr5 hown5;generalize ((w5.setCell (α W3.heap.size 0) (.slice A5 l.length c5)).setCell (α W3.heap.size 1) (.slice (some (α b2 o2)) u.length c'))=w6 at hO hB6 hown6 ⊢;generalize hgg:W3.heap.size=gO at hO hgO ⊢;clear hgg;rotate_left
  all_goals
   clear hrda hrdb hrdc hbla hblb hblc howa howb howc hka hkb hkc hsb hsc;obtain⟨g5,rfl,hg5a,hg5b,hz1,hz2,hz3⟩:=own_at2 hown6.out (by omega);obtain⟨d1,d2,d3⟩:=hz2 n.toNat hnl;have hsm:=hz3 n.toNat x hnl;clear hz1 hz2 hz3;have hKlt:=K2.out.lt;have e0:=χ (hO.out.cell 0);have e1:=χ (hO.out.cell 1)
   have hne1:gO≠g5:=by
    rintro rfl;rw[hO.out.cell]at d2;have:n.toNat*2+1=1∨2≤n.toNat*2+1:=by omega
    rcases this with h|h
    ·rw[h]at d2;simp at d2
    ·rw[Array.getElem?_eq_none (by simpa using h)]at d2;cases d2
   have hbl':Below W3.heap.size W3 (w6.setCell (α g5 (n.toNat*2+1)) (ι x)):=hB6.setCell (by simpa using hg5a) _;have hO':=blk_far hO.out (p:=(α g5 (n.toNat*2+1))) (by simpa using hne1) (ι x);have hK2:=Blk.below K2.out hbl' hKlt;have v0:=χ (hO'.cell 0);have v1:=χ (hO'.cell 1);have s0:=χ (hK2.cell 0);have s1:=χ (hK2.cell 1);have s2:=hK2.thaw 0;have s3:=hK2.thaw 1;have bF:=((below_step b3 hbl').setCell (p:=(α (w.heap.size+1) 0)) (by simp) (.slice (some (α g5 0)) l.length c5)).setCell (p:=(α (w.heap.size+1) 1)) (by simp) (.slice (some (α b2 o2)) u.length c');have T2:=κ (Rd.below' hu.out bF bF.size);have T1:=κ (Rd.of_own (ownsRow_setCell_below (ownsRow_setCell_below hsm (a:=(α (w.heap.size+1) 0)) hKlt (.slice (some (α g5 0)) l.length c5)) (a:=(α (w.heap.size+1) 1)) hKlt (.slice (some (α b2 o2)) u.length c')));have hend:=κ (madeLim_mkR (X:=some (α b1 o1)) (X':=some (α b2 o2)) (fa:=(by first|exact .inl rfl|exact .inr (fun a ha=>by have e9:=Option.some.inj ha;rw[←e9];exact Nat.le_trans b3.size hg5a))) (fb:=(by first|exact .inl rfl|exact .inr (fun a ha=>by have e9:=Option.some.inj ha;rw[←e9];exact Nat.le_trans b3.size hg5a))) (A:=some (α g5 0)) (A':=some (α b2 o2)) (c:=c5) (c':=c') hresu.out hres.out T1.out T2.out bF);rw[List.length_set]at hend;have kf:=blk_set (blk_set hK2 0 (.slice (some (α g5 0)) l.length c5)) 1 (.slice (some (α b2 o2)) u.length c');have t4:(((w6.setCell (α g5 (n.toNat*2+1)) (ι x)).setCell (α (w.heap.size+1) 0) (.slice (some (α g5 0)) l.length c5)).setCell (α (w.heap.size+1) 1) (.slice (some (α b2 o2)) u.length c')).cell? (α (w.heap.size+1) 0)=some (.slice (some (α g5 0)) l.length c5):=by rw[kf.cell];rfl
   have t5:(((w6.setCell (α g5 (n.toNat*2+1)) (ι x)).setCell (α (w.heap.size+1) 0) (.slice (some (α g5 0)) l.length c5)).setCell (α (w.heap.size+1) 1) (.slice (some (α b2 o2)) u.length c')).cell? (α (w.heap.size+1) 1)=some (.slice (some (α b2 o2)) u.length c'):=by rw[kf.cell];rfl
   clear kf bF hK2 hO' hbl' hsm f0 f1 r0 r1 y0 y1
   go_wp2_with fail
   exact bodyPost_ret (v:= .tuple #[.agg #[.slice (some (α g5 0)) l.length c5,.slice (some (α b2 o2)) u.length c'],ι 0]) (by simp[results,Tryz.results50,go_sem,t4,t5]) rfl hend.out
 ·have hin':inR l.length n=false:=by simpa using hin
  have hres:Hid (limF l n x=18):=by show _=_;rw[limF,hin'];rfl
  have hresu:Hid (limL l n x=l):=by show _=_;rw[limL,hres.out];rfl
  have hout:n<0∨(l.length:Int)≤n:=by
   by_cases h0:n<0
   ·exact .inl h0
   ·right;by_cases h1:n<l.length
    ·exact absurd (inR_t (by omega) h1) hin
    ·omega
  clear hin hin';by_cases h0:n<0
  ·clear hout
   go_enter Tryz.func50,Tryz.ntmps50
   go_wp2_with fail
   exact bodyPost_ret (v:= .tuple #[.agg #[.slice A l.length c,.slice A' u.length c'],ι 18]) (by simp[results,Tryz.results50,go_sem,t4,t5]) rfl (madeLim_mkR (fa:=(by first|exact .inl rfl|exact .inr (fun a ha=>by have e9:=Option.some.inj ha;rw[←e9];exact Nat.le_trans b3.size hg5a))) (fb:=(by first|exact .inl rfl|exact .inr (fun a ha=>by have e9:=Option.some.inj ha;rw[←e9];exact Nat.le_trans b3.size hg5a))) hresu.out hres.out T1.out T2.out T3)
  ·have h1:(l.length:Int)≤n:=by omega
   have h2:0≤n:=by omega
   clear hout
   go_enter Tryz.func50,Tryz.ntmps50
   go_wp2_with fail
   exact bodyPost_ret (v:= .tuple #[.agg #[.slice A l.length c,.slice A' u.length c'],ι 18]) (by simp[results,Tryz.results50,go_sem,t4,t5]) rfl (madeLim_mkR (fa:=(by first|exact .inl rfl|exact .inr (fun a ha=>by have e9:=Option.some.inj ha;rw[←e9];exact Nat.le_trans b3.size hg5a))) (fb:=(by first|exact .inl rfl|exact .inr (fun a ha=>by have e9:=Option.some.inj ha;rw[←e9];exact Nat.le_trans b3.size hg5a))) hresu.out hres.out T1.out T2.out T3)
end Rfs
end Go.Proofs.YtfbajlcljfjbkaaGreat
