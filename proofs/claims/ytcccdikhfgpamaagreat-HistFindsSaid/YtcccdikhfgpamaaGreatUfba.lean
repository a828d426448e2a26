/- Texts side by side. -/
import Derived.Test.YtcccdikhfgpamaaGreatUfaf
set_option linter.unusedVariables false
set_option linter.unusedSimpArgs false
set_option maxRecDepth 100000
set_option maxHeartbeats 16000000
namespace Go.Proofs.YtcccdikhfgpamaaGreat
open Kap Abv Go.ChangeShapes Go.WideShapes Go.ChangeAt Go.RowKit Mem Tre Ref3 Law3 Fix3 Crd CrdB CrdC Cpl Own Res Rel Lim Rr4
namespace Rfs
def MadeResR(X X':Option Addr)(l:List (Int×Int))(u:List Int)(p:Int×Int)(w:World)(e:Ending)(w':World):Prop:=
 ∃A c A' c',e= .returned (.tuple #[.agg #[.slice A l.length c,.slice A' u.length c'],.int .i64 p.1,.int .i64 p.2])∧Nds w' w'.heap.size A l∧Ris w' w'.heap.size A' u∧Below w.heap.size w w'∧(A=X∨ ∀a,A=some a→w.heap.size≤a.block)∧(A'=X'∨ ∀a,A'=some a→w.heap.size≤a.block)
variable {b:Int} {l:List (Int×Int)} {u u':List Int} {c c':Nat} {A A' X X':Option Addr} {w w':World}
theorem madeRes_mkR{p:Int×Int}{a:Int}(fa:A=X∨ ∀a,A=some a→w.heap.size≤a.block)(fb:A'=X'∨ ∀a,A'=some a→w.heap.size≤a.block)(hu:u=u')(hp:p=(a,b))(h1:Nds w' w'.heap.size A l)(h2:Ris w' w'.heap.size A' u')(hb:Below w.heap.size w w'):
  MadeResR X X' l u p w (.returned (.tuple #[.agg #[.slice A l.length c,.slice A' u'.length c'],.int .i64 a,.int .i64 b])) w':=by
 subst hu;subst hp;exact⟨A,c,A',c',rfl,h1,h2,hb,fa,fb⟩
def MadeRelR(X X':Option Addr)(l:List (Int×Int))(u:List Int)(b:Bool)(w:World)(e:Ending)(w':World):Prop:=
 ∃A c A' c',e= .returned (.tuple #[.agg #[.slice A l.length c,.slice A' u.length c'],.bool b])∧Nds w' w'.heap.size A l∧Ris w' w'.heap.size A' u∧Below w.heap.size w w'∧(A=X∨ ∀a,A=some a→w.heap.size≤a.block)∧(A'=X'∨ ∀a,A'=some a→w.heap.size≤a.block)
theorem madeRel_mkR{b b':Bool}(fa:A=X∨ ∀a,A=some a→w.heap.size≤a.block)(fb:A'=X'∨ ∀a,A'=some a→w.heap.size≤a.block)(hu:u=u')(hp:b=b')(h1:Nds w' w'.heap.size A l)(h2:Ris w' w'.heap.size A' u')(hb:Below w.heap.size w w'):
  MadeRelR X X' l u b w (.returned (.tuple #[.agg #[.slice A l.length c,.slice A' u'.length c'],.bool b'])) w':=by
 subst hu;subst hp;exact⟨A,c,A',c',rfl,h1,h2,hb,fa,fb⟩
def MadeLimR(X X':Option Addr)(l:List (Int×Int))(u:List Int)(b:Int)(w:World)(e:Ending)(w':World):Prop:=
 ∃A c A' c',e= .returned (.tuple #[.agg #[.slice A l.length c,.slice A' u.length c'],.int .i64 b])∧Nds w' w'.heap.size A l∧Ris w' w'.heap.size A' u∧Below w.heap.size w w'∧(A=X∨ ∀a,A=some a→w.heap.size≤a.block)∧(A'=X'∨ ∀a,A'=some a→w.heap.size≤a.block)
theorem madeLim_mkR{l':List (Int×Int)}{b':Int}(fa:A=X∨ ∀a,A=some a→w.heap.size≤a.block)(fb:A'=X'∨ ∀a,A'=some a→w.heap.size≤a.block)(hu:l=l')(hp:b=b')(h1:Nds w' w'.heap.size A l')(h2:Ris w' w'.heap.size A' u)(hb:Below w.heap.size w w'):
  MadeLimR X X' l u b w (.returned (.tuple #[.agg #[.slice A l'.length c,.slice A' u.length c'],.int .i64 b'])) w':=by
 subst hu;subst hp;exact⟨A,c,A',c',rfl,h1,h2,hb,fa,fb⟩
theorem rreserve_fresh(A A':Option Addr)(c c':Nat)(l:List (Int×Int))(u:List Int)(n x:Int)(w:World)(hl:Hid (Nds w w.heap.size A l))(hu:Hid (Ris w w.heap.size A' u))(hg:GoodSt l u)(hn:inI n)(hx0: -9223372036854775808≤x)(hx1:x≤9223372036854775807):
  Calls Tryz.prog 71 #[.agg #[.slice A l.length c,.slice A' u.length c'],.int .i64 n,.int .i64 x] w (MadeResR A A' l (resU l u n x) (resF l u n x) w):=by
 obtain⟨i0,hi,ak,aa,ab⟩:=info_parts i64_info;have hw:=κ hg.wf;have bj:=κ hg.wfi;have g1:=hg.few;have g2:(l.length:Int)≤32:=by omega
 have g3:(u.length:Int)≤32:=by rw[hg.len];omega
 have HG:=κ hg;obtain⟨P,hP⟩:=ν (pathF l 3 n);have HP:=κ hP;have p1:P.length≤3:=by rw[hP];exact path_le3 _ _ _
 clear hP hg;have b0:=γ w (.cells (vS A l.length c A' u.length c') 114) (.cells (vS none 0 0 none 0 0) 114);have k1:=κ ((Blk.fresh w 114 (vS A l.length c A' u.length c')).alloc (.cells (vS none 0 0 none 0 0) 114))
 have k2:Hid (Blk ((w.alloc (.cells (vS A l.length c A' u.length c') 114)).alloc (.cells (vS none 0 0 none 0 0) 114)) (w.heap.size+1) 114 (vS none 0 0 none 0 0)):=by
  have:=Blk.fresh (w.alloc (.cells (vS A l.length c A' u.length c') 114)) 114 (vS none 0 0 none 0 0);simp only[World.size_alloc]at this;exact this
 go_enter Tryz.func71,Tryz.ntmps71
 go_wp2_with fail
 refine(rpath_any A c l n _ (Rd.below' hl.o b0 b0.size) hw (by omega) hn).mono ?_;rintro e d ⟨A3,c3,rfl,al,ah⟩;rw[←HP.o]at al ⊢;have HR:=κ al;have b3:=below_step b0 ah;have K1:=κ (Blk.below' k1.o ah);have H:=κ (Blk.below' k2.o ah);have HL:=θ hl.o b3;have HU:=η hu.o b3;clear k1 k2 ah al b0;have f0:=χ (K1.o.cell 0);have f1:=χ (K1.o.cell 1);have r0:=χ (H.o.cell 0);have r1:=χ (H.o.cell 1);have y0:=H.o.thaw 0;have y1:=H.o.thaw 1;have t3:=(b3.setCell (p:=(α (w.heap.size+1) 0)) (by simp) (.slice A l.length c)).setCell (p:=(α (w.heap.size+1) 1)) (by simp) (.slice A' u.length c');have T1:Hid (Nds ((d.setCell (α (w.heap.size+1) 0) (.slice A l.length c)).setCell (α (w.heap.size+1) 1) (.slice A' u.length c')) _ A l):=Rd.below' hl.o t3 t3.size;have T2:Hid (Ris ((d.setCell (α (w.heap.size+1) 0) (.slice A l.length c)).setCell (α (w.heap.size+1) 1) (.slice A' u.length c')) _ A' u):=Rd.below' hu.o t3 t3.size;have t4:((d.setCell (α (w.heap.size+1) 0) (.slice A l.length c)).setCell (α (w.heap.size+1) 1) (.slice A' u.length c')).cell? (α (w.heap.size+1) 0)=some (.slice A l.length c):=by rw[(blk_set (blk_set H.o 0 _) 1 _).cell];rfl
 have t5:((d.setCell (α (w.heap.size+1) 0) (.slice A l.length c)).setCell (α (w.heap.size+1) 1) (.slice A' u.length c')).cell? (α (w.heap.size+1) 1)=some (.slice A' u.length c'):=by rw[(blk_set (blk_set H.o 0 _) 1 _).cell];rfl
 by_cases hp0:P.length=0
 ·have q0:((P.length:Int)==0)=true:=beq_iff_eq.2 (by omega);have z:Hid (resF l u n x=(18,-1)):=by show _=_;rw[resF,←HP.o,if_pos hp0]
  have G:Hid (resU l u n x=u):=by show _=_;rw[resU,z.o];rfl
  clear hp0
  go_wp2_with fail
  exact bodyPost_ret (v:= .tuple #[.agg #[.slice A l.length c,.slice A' u.length c'],ι 18,ι (-1)]) (by simp[results,Tryz.results71,go_sem,t4,t5]) rfl (madeRes_mkR (fa:=(by first|exact .inl rfl|exact .inr (fun a Q=>by have R:=Option.some.inj Q;rw[←R];exact Nat.le_trans b3.size C))) (fb:=(by first|exact .inl rfl|exact .inr (fun a Q=>by have R:=Option.some.inj Q;rw[←R];exact Nat.le_trans b3.size C))) G.o z.o T1.o T2.o t3)
 have q0:((P.length:Int)==0)=false:=beq_eq_false_iff_ne.2 (by omega);by_cases hx:x<0
 ·have z:Hid (resF l u n x=(1,-1)):=by show _=_;rw[resF,←HP.o,if_neg hp0,if_pos hx]
  have G:Hid (resU l u n x=u):=by show _=_;rw[resU,z.o];rfl
  clear hp0
  go_wp2_with fail
  exact bodyPost_ret (v:= .tuple #[.agg #[.slice A l.length c,.slice A' u.length c'],ι 1,ι (-1)]) (by simp[results,Tryz.results71,go_sem,t4,t5]) rfl (madeRes_mkR (fa:=(by first|exact .inl rfl|exact .inr (fun a Q=>by have R:=Option.some.inj Q;rw[←R];exact Nat.le_trans b3.size C))) (fb:=(by first|exact .inl rfl|exact .inr (fun a Q=>by have R:=Option.some.inj Q;rw[←R];exact Nat.le_trans b3.size C))) G.o z.o T1.o T2.o t3)
 have av: ∀N,(((d.drewN N).setCell (α (w.heap.size+1) 0) (.slice A l.length c)).setCell (α (w.heap.size+1) 1) (.slice A' u.length c')).cell? (α (w.heap.size+1) 0)=some (.slice A l.length c):=fun N=>t4
 have aw: ∀N,(((d.drewN N).setCell (α (w.heap.size+1) 0) (.slice A l.length c)).setCell (α (w.heap.size+1) 1) (.slice A' u.length c')).cell? (α (w.heap.size+1) 1)=some (.slice A' u.length c'):=fun N=>t5
 have TN:Hid (∀N,Nds (((d.drewN N).setCell (α (w.heap.size+1) 0) (.slice A l.length c)).setCell (α (w.heap.size+1) 1) (.slice A' u.length c')) (((d.drewN N).setCell (α (w.heap.size+1) 0) (.slice A l.length c)).setCell (α (w.heap.size+1) 1) (.slice A' u.length c')).heap.size A l∧Ris (((d.drewN N).setCell (α (w.heap.size+1) 0) (.slice A l.length c)).setCell (α (w.heap.size+1) 1) (.slice A' u.length c')) (((d.drewN N).setCell (α (w.heap.size+1) 0) (.slice A l.length c)).setCell (α (w.heap.size+1) 1) (.slice A' u.length c')).heap.size A' u∧Below w.heap.size w (((d.drewN N).setCell (α (w.heap.size+1) 0) (.slice A l.length c)).setCell (α (w.heap.size+1) 1) (.slice A' u.length c'))):=fun N=>⟨T1.o,T2.o,⟨t3.os,t3.tape,t3.output,t3.size,t3.block⟩⟩
 clear t4 t5 t3 T1 T2;have z:Hid (resF l u n x=resS l u x P 12):=by show _=_;rw[resF,←HP.o,if_neg hp0,if_neg hx]
 have bk:decide (x<0)=false:=by simp;omega
 have V:Hid (Apart u.length P):=by rw[HP.o];exact apart_path HG.o.okt HG.o.len n
 clear hp0
 go_wp2_with fail
 obtain⟨s,t,rfl,bl,ax⟩:=Nds.at HL.o (by have:=HG.o.one;omega);obtain⟨b2,o2,rfl,bn,ac⟩:=Ris.at (i:=0) HU.o (by rw[HG.o.len];have:=HG.o.one;omega);have aP:=κ ax;have aQ:=κ ac;clear ax ac
 go_loopg [10] P.length (fun g aR w'=> ∃(k S:Nat),k+g=P.length∧aR= ι k∧Hid (resS l u x (P.drop k) (12+k)=resS l u x P 12)∧w'=d.drewN S)
 case atStart=>exact⟨0,0,by omega,rfl,rfl,rfl⟩
 case round=>
  obtain⟨k,S,hk,rfl,am,rfl⟩:=hrel;by_cases hlt:(k:Int)<(P.length:Int)
  ·obtain⟨g,rfl⟩: ∃g,gk=g+1:=⟨gk-1,by omega⟩;have hm:=V.o.1 k (by omega);obtain⟨m,L⟩:=ν (gI P k);have HM:=κ L;rw[←L]at hm;obtain⟨aS,aT⟩:=hm;obtain⟨b,o,rfl,hb,ad⟩:=Ris.at (i:=k) HR.o (by omega);have d0:=ad k (by omega);rw[←L]at d0;have ai:m.toNat<l.length:=by rw[←HG.o.len];omega
   have aU:m<l.length:=by omega
   have d1:=aQ.o m.toNat (by omega);have d2:=(aP.o m.toNat ai).2;have an:=HG.o.uok m.toNat (by omega);have ao:=HG.o.okt m.toNat ai;obtain⟨aV,aW⟩:=an;obtain⟨_,_,aX,aY,_⟩:=ao;clear ad L;by_cases hfit:nC l m.toNat-gI u m.toNat<x
   ·have ay:Hid (resF l u n x=(12+(k:Int),m)):=by
     show _=_;rw[z.o,←am.o,resS_no (by omega) (by rw[←HM.o];exact hfit),HM.o]
    have G:Hid (resU l u n x=u):=by
     show _=_;rw[resU,ay.o,if_neg (by show ¬(12+(k:Int))=0;omega)]
    have aZ:=blk_ne H.o d0;have e1:=fun N:Nat=>far2 (x:= .slice (some (α s t)) l.length c) (y:= .slice (some (α b2 o2)) u.length c') d0 aZ N
    go_wp2_with fail
    go_quiet (fail)
    go_wp2_with fail
    go_region
    all_goals
     go_wp2_with fail
     exact bodyPost_ret (v:= .tuple #[.agg #[.slice (some (α s t)) l.length c,.slice (some (α b2 o2)) u.length c'],ι (12+(k:Int)),ι m]) (by simp[results,Tryz.results71,go_sem,av,aw]) rfl (madeRes_mkR (fa:=(by first|exact .inl rfl|exact .inr (fun a Q=>by have R:=Option.some.inj Q;rw[←R];exact Nat.le_trans b3.size C))) (fb:=(by first|exact .inl rfl|exact .inr (fun a Q=>by have R:=Option.some.inj Q;rw[←R];exact Nat.le_trans b3.size C))) G.o ay.o (TN.o _).1 (TN.o _).2.1 (TN.o _).2.2)
   ·have a0:Hid (resS l u x (P.drop (k+1)) (12+((k+1:Nat):Int))=resS l u x P 12):=by
     show _=_;have a1:=resS_go (l:=l) (u:=u) (p:=P) (x:=x) (c:=12+(k:Int)) (k:=k) (by omega) (by rw[←HM.o];exact hfit);rw[←am.o,a1]
     congr 1
    go_wp2_with fail
    go_quiet (fail)
    go_wp2_with fail
    go_roundg g
    case measure=>omega
    case rel=>exact⟨k+1,_,by omega,by go_num,a0,rfl⟩
  ·have ap:Hid (resF l u n x=(0,-1)):=by
    show _=_;rw[z.o,←am.o,show k=P.length by omega];exact resS_end
   have a2:Hid (resU l u n x=addF u P x):=by
    show _=_;rw[resU,ap.o,if_pos rfl,←HP.o]
   have a3:Hid (∀i,i<P.length→x≤nC l (gI P i).toNat-gI u (gI P i).toNat):=by
    have h1:(resS l u x P 12).1=0:=by rw[←z.o,ap.o]
    exact resS_ok P 12 (by decide) h1
   have az:Hid (((d.drewN (S+1)).alloc (.cells #[] 2)).ownsRow d.heap.size 2 1 (.slice (some (α d.heap.size 0)) 0 0) 0 []):=own_empty (by exact Blk.fresh (d.drewN (S+1)) _ _) (by simp);have W:Below d.heap.size d ((d.drewN (S+1)).alloc (.cells #[] 2)):=(Below.drewN' ψ _).alloc τ _;have aA:=κ (Rd.below HU.o W);have aB:=κ (Blk.below' K1.o W);have aC:Hid ((((d.drewN (S+1)).alloc (.cells #[] 2)).alloc (.cells (vS none 0 0 none 0 0) 114)).ownsRow d.heap.size 2 1 (.slice (some (α d.heap.size 0)) 0 0) 0 []):=own_empty (by exact(Blk.fresh (d.drewN (S+1)) _ _).alloc _) (by simp);have Y:Below d.heap.size d (((d.drewN (S+1)).alloc (.cells #[] 2)).alloc (.cells (vS none 0 0 none 0 0) 114)):=((Below.drewN' ψ _).alloc τ _).alloc (by simp[World.drewN]) _;have aD:=κ (Rd.below HU.o Y);have aE:=κ (Blk.below' K1.o Y);have aF:Hid ((((d.drewN (S+1)).alloc (.cells (vS none 0 0 none 0 0) 114)).alloc (.cells #[] 2)).ownsRow (d.heap.size+1) 2 1 (.slice (some (α (d.heap.size+1) 0)) 0 0) 0 []):=own_empty (by have:=Blk.fresh ((d.drewN (S+1)).alloc (.cells (vS none 0 0 none 0 0) 114)) 2 #[];simp only[World.size_alloc]at this;exact this) (by simp);have Z:Below d.heap.size d (((d.drewN (S+1)).alloc (.cells (vS none 0 0 none 0 0) 114)).alloc (.cells #[] 2)):=((Below.drewN' ψ _).alloc τ _).alloc (by simp[World.drewN]) _;have aG:=κ (Rd.below HU.o Z);have aH:=κ (Blk.below' K1.o Z)
   have aI:Hid (Blk (((d.drewN (S+1)).alloc (.cells #[] 2)).alloc (.cells (vS none 0 0 none 0 0) 114)) (d.heap.size+1) 114 (vS none 0 0 none 0 0)):=by
    have:=Blk.fresh ((d.drewN (S+1)).alloc (.cells #[] 2)) 114 (vS none 0 0 none 0 0);simp only[World.size_alloc]at this;exact this
   have aJ:Hid (Blk (((d.drewN (S+1)).alloc (.cells (vS none 0 0 none 0 0) 114)).alloc (.cells #[] 2)) d.heap.size 114 (vS none 0 0 none 0 0)):=(Blk.fresh (d.drewN (S+1)) _ _).alloc _;clear av aw
   go_wp2_with fail
   go_region_held3 (fun w'=>w'.cell? ⟨w.heap.size,0,none⟩=some (.slice (some ⟨s,t,none⟩) l.length c)∧w'.cell? ⟨w.heap.size,1,none⟩=some (.slice (some ⟨b2,o2,none⟩) u.length c'))
    (first|go_keep|(exact⟨v0,v1⟩)|(exact⟨v2 _ _,v3 _ _⟩))
    (first
     |(refine step_appG (nm:=u.length) az aA (by simp) rfl _ _ _ rfl i0 (.int .i64 0) 8 Tryz.underlying112 hi ak aa ab rfl (by decide) rfl rfl (by rw[ints_len];omega) (ints_one u) (by unfold maxLen;omega) (by omega) (by first|(simp;done)|(simp;omega)) ?_;intro I q J j f;have F:=κ (Blk_grown aB.o f (by simp[Value.ownBlock];have:=H.o.lt;omega));have v0:=χ (F.o.cell 0);have v1:=χ (F.o.cell 1))
     |(refine step_appG (nm:=u.length) aC aD (by simp) rfl _ _ _ rfl i0 (.int .i64 0) 8 Tryz.underlying112 hi ak aa ab rfl (by decide) rfl rfl (by rw[ints_len];omega) (ints_one u) (by unfold maxLen;omega) (by omega) (by first|(simp;done)|(simp;omega)) ?_;intro I q J j f;have F:=κ (Blk_grown aE.o f (by simp[Value.ownBlock];have:=H.o.lt;omega));have v0:=χ (F.o.cell 0);have v1:=χ (F.o.cell 1);have E:=κ (Blk_grown aI.o f (by simp[Value.ownBlock]));have s0:=χ (E.o.cell 0);have s1:=χ (E.o.cell 1);have s2:=E.o.thaw 0;have s3:=E.o.thaw 1;have v2:=ξ (fun x y=>(blk_far (blk_far F.o (p:=⟨d.heap.size+1,0,none⟩) (by have:=H.o.lt;simp;omega) x) (p:=⟨d.heap.size+1,1,none⟩) (by have:=H.o.lt;simp;omega) y).cell 0);have v3:=ξ (fun x y=>(blk_far (blk_far F.o (p:=⟨d.heap.size+1,0,none⟩) (by have:=H.o.lt;simp;omega) x) (p:=⟨d.heap.size+1,1,none⟩) (by have:=H.o.lt;simp;omega) y).cell 1))
     |(refine step_appG (nm:=u.length) aF aG (by simp) rfl _ _ _ rfl i0 (.int .i64 0) 8 Tryz.underlying112 hi ak aa ab rfl (by decide) rfl rfl (by rw[ints_len];omega) (ints_one u) (by unfold maxLen;omega) (by omega) (by first|(simp;done)|(simp;omega)) ?_;intro I q J j f;have F:=κ (Blk_grown aH.o f (by simp[Value.ownBlock];have:=H.o.lt;omega));have v0:=χ (F.o.cell 0);have v1:=χ (F.o.cell 1);have E:=κ (Blk_grown aJ.o f (by simp[Value.ownBlock]));have s0:=χ (E.o.cell 0);have s1:=χ (E.o.cell 1);have s2:=E.o.thaw 0;have s3:=E.o.thaw 1;have v2:=ξ (fun x y=>(blk_far (blk_far F.o (p:=⟨d.heap.size,0,none⟩) (by have:=H.o.lt;simp;omega) x) (p:=⟨d.heap.size,1,none⟩) (by have:=H.o.lt;simp;omega) y).cell 0);have v3:=ξ (fun x y=>(blk_far (blk_far F.o (p:=⟨d.heap.size,0,none⟩) (by have:=H.o.lt;simp;omega) x) (p:=⟨d.heap.size,1,none⟩) (by have:=H.o.lt;simp;omega) y).cell 1)))
   have aq:d.heap.size≤J.heap.size:=by have:=f.size;simp[World.drewN]at this;omega
   have O:Hid (Blk (J.alloc (.cells (vS (some (α s t)) l.length c I u.length q) 114)) J.heap.size 114 (vS (some (α s t)) l.length c I u.length q)):=Blk.fresh J 114 (vS (some (α s t)) l.length c I u.length q);have T:Below d.heap.size d (J.alloc (.cells (vS (some (α s t)) l.length c I u.length q) 114)):=(W.grown f (by first|(simp[World.drewN];done)|(simp[World.drewN];omega)) (by simp[Value.ownBlock])).alloc aq _;have r:Hid ((J.alloc (.cells (vS (some (α s t)) l.length c I u.length q) 114)).ownsRow d.heap.size 2 1 (.slice I u.length q) u.length (ints u)):=World.ownsRow.alloc j.o _;have ae:d.heap.size≤J.heap.size:=by omega
   clear f j;generalize (J.alloc (.cells (vS (some (α s t)) l.length c I u.length q) 114))=w6 at O T r ⊢;generalize af:J.heap.size=gO at O ae ⊢;clear af;rotate_left;have aq:d.heap.size≤J.heap.size:=by have:=f.size;simp[World.drewN]at this;omega
   have O:Hid (Blk ((J.setCell (α (d.heap.size+1) 0) (.slice (some (α s t)) l.length c)).setCell (α (d.heap.size+1) 1) (.slice I u.length q)) (d.heap.size+1) 114 (vS (some (α s t)) l.length c I u.length q)):=blk_set (blk_set E.o 0 _) 1 _;have T:Below d.heap.size d ((J.setCell (α (d.heap.size+1) 0) (.slice (some (α s t)) l.length c)).setCell (α (d.heap.size+1) 1) (.slice I u.length q)):=((Y.grown f (by first|(simp[World.drewN];done)|(simp[World.drewN];omega)) (by simp[Value.ownBlock])).setCell (by simp) _).setCell (by simp) _;have r:Hid (((J.setCell (α (d.heap.size+1) 0) (.slice (some (α s t)) l.length c)).setCell (α (d.heap.size+1) 1) (.slice I u.length q)).ownsRow d.heap.size 2 1 (.slice I u.length q) u.length (ints u)):=own_set2 j.o E.o (by decide) _ _;have ae:d.heap.size≤(d.heap.size+1):=by omega
   clear f j;generalize ((J.setCell (α (d.heap.size+1) 0) (.slice (some (α s t)) l.length c)).setCell (α (d.heap.size+1) 1) (.slice I u.length q))=w6 at O T r ⊢;generalize af:(d.heap.size+1)=gO at O ae ⊢;clear af;rotate_left;have aq:d.heap.size≤J.heap.size:=by have:=f.size;simp[World.drewN]at this;omega
   have O:Hid (Blk ((J.setCell (α d.heap.size 0) (.slice (some (α s t)) l.length c)).setCell (α d.heap.size 1) (.slice I u.length q)) d.heap.size 114 (vS (some (α s t)) l.length c I u.length q)):=blk_set (blk_set E.o 0 _) 1 _;have T:Below d.heap.size d ((J.setCell (α d.heap.size 0) (.slice (some (α s t)) l.length c)).setCell (α d.heap.size 1) (.slice I u.length q)):=((Z.grown f (by first|(simp[World.drewN];done)|(simp[World.drewN];omega)) (by simp[Value.ownBlock])).setCell (by simp) _).setCell (by simp) _;have r:Hid (((J.setCell (α d.heap.size 0) (.slice (some (α s t)) l.length c)).setCell (α d.heap.size 1) (.slice I u.length q)).ownsRow d.heap.size 2 1 (.slice I u.length q) u.length (ints u)):=own_mono (own_set2 j.o E.o (by decide) _ _) (by omega);have ae:d.heap.size≤d.heap.size:=by omega
   clear f j;generalize ((J.setCell (α d.heap.size 0) (.slice (some (α s t)) l.length c)).setCell (α d.heap.size 1) (.slice I u.length q))=w6 at O T r ⊢;generalize af:d.heap.size=gO at O ae ⊢;clear af;rotate_left
   all_goals
    clear aA aD aG W Y Z az aC aF aB aE aH aI aJ
    go_wp2_with fail
   all_goals
    obtain⟨K,rfl,C,bo,aa,ab,a4⟩:=own_at r.o (by rw[HG.o.len];have:=HG.o.one;omega);clear aa ab a4;have bp:=η HR.o T;have a5:Hid (w6.ownsRow d.heap.size 2 1 (.slice (some (α K 0)) u.length q) u.length (ints (addF u (P.take 0) x))):=by rw[List.take_zero,addF_nil];exact r.o
    go_loopg [12] P.length (fun g a6 w'=> ∃k:Nat,k+g=P.length∧a6= ι k∧Hid (w'.ownsRow d.heap.size 2 1 (.slice (some (α K 0)) u.length q) u.length (ints (addF u (P.take k) x)))∧Hid (Blk w' gO 114 (vS (some (α s t)) l.length c (some (α K 0)) u.length q))∧Below d.heap.size d w')
    case atStart=>exact⟨0,by omega,rfl,a5,O,T⟩
    case round=>
     obtain⟨k,hk,rfl,hrow,O,aj⟩:=hrel;by_cases hlt:(k:Int)<(P.length:Int)
     ·obtain⟨g,rfl⟩: ∃g,gk=g+1:=⟨gk-1,by omega⟩;have hm:=V.o.1 k (by omega);have a7:=a3.o k (by omega);have ar:=addF_at (x:=x) V.o (show k<P.length by omega);have U:=addF_step (x:=x) V.o (show k<P.length by omega);obtain⟨m,L⟩:=ν (gI P k);rw[←L]at hm a7 ar U;obtain⟨aS,aT⟩:=hm;obtain⟨b,o,rfl,hb,ad⟩:=Ris.at (i:=k) HR.o (by omega);have d0:wr.cell? (α b (o+k))=some (ι m):=by rw[L];exact(aj.cell (p:=(α b (o+k))) hb).trans (ad k (by omega))
      have ai:m.toNat<l.length:=by rw[←HG.o.len];omega
      have aU:m<u.length:=by omega
      obtain⟨a8,a9,ba,bb,bc,ac,aK⟩:=own_at hrow.o (by rw[addF_len];omega);clear ba bb bc;obtain rfl:K=a8:=by injection a9 with e;injection e
      have aL:=ac m.toNat (by rw[addF_len];omega);rw[ar]at aL;obtain⟨d1,d2⟩:=aL;have au:=aK m.toNat (gI u m.toNat+x) (by rw[addF_len];omega);rw[U]at au;have an:=HG.o.uok m.toNat (by omega);have ao:=HG.o.okt m.toNat ai;obtain⟨aV,aW⟩:=an;obtain⟨_,_,aX,aY,_⟩:=ao;have d3:=χ (O.o.cell 1)
      have aM:gO≠K:=by
       rintro rfl;rw[O.o.cell]at d1;have:m.toNat=0∨m.toNat=1∨2≤m.toNat:=by omega
       rcases this with h|h|h
       ·rw[h]at d1;simp at d1
       ·rw[h]at d1;simp at d1
       ·rw[Array.getElem?_eq_none (by simpa using h)]at d1;cases d1
      have bd:b≠K:=by omega
      have d4:=ξ (fun y=>(blk_far O.o (p:=(α K m.toNat)) (by simpa using aM) y).cell 1)
      have d5: ∀y,(wr.setCell (α K m.toNat) y).cell? (α b (o+k))=some (ι m):=fun y=>by
       rw[World.cell?_setCell_other _ _ _ _ (by intro e;injection e with e;exact bd e.symm)];exact d0
      have be:=κ au;have bf:Hid (Blk (wr.setCell (α K m.toNat) (ι (gI u m.toNat+x))) gO 114 (vS (some (α s t)) l.length c (some (α K 0)) u.length q)):=blk_far O.o (p:=(α K m.toNat)) (by simpa using aM) _;have bg:Below d.heap.size d (wr.setCell (α K m.toNat) (ι (gI u m.toNat+x))):=aj.setCell (by simpa using C) _;clear ad L ar U ac aK au hrow
      go_wp2_with fail
      go_region
      all_goals
       go_wp2_with fail
       go_roundg g
       case measure=>omega
       case rel=>exact⟨k+1,by omega,by go_num,be,bf,bg.drew⟩
     ·have bh:Hid (wr.ownsRow d.heap.size 2 1 (.slice (some (α K 0)) u.length q) u.length (ints (addF u P x))):=by
       have:k=P.length:=by omega
       subst this;rw[addF_full]at hrow;exact hrow
      have bi:Hid (u.length=(addF u P x).length):=(addF_len _ _ _).symm;have ag:=κ (Blk.below H.o aj H.o.lt);have aN:=H.o.lt;have d2:=χ (O.o.cell 0);have d3:=χ (O.o.cell 1);have r0:=χ (ag.o.cell 0);have r1:=χ (ag.o.cell 1);have y0:=ag.o.thaw 0;have y1:=ag.o.thaw 1;have bF:=((below_step b3 aj).setCell (p:=(α (w.heap.size+1) 0)) (by simp) (.slice (some (α s t)) l.length c)).setCell (p:=(α (w.heap.size+1) 1)) (by simp) (.slice (some (α K 0)) u.length q);have T1:=κ (Rd.below' hl.o bF bF.size);have T2:=κ (Rd.of_own (ownsRow_setCell_below (ownsRow_setCell_below bh.o (a:=(α (w.heap.size+1) 0)) aN (.slice (some (α s t)) l.length c)) (a:=(α (w.heap.size+1) 1)) aN (.slice (some (α K 0)) u.length q)));have aO:=κ (madeRes_mkR (X:=some (α s t)) (X':=some (α b2 o2)) (fa:=(by first|exact .inl rfl|exact .inr (fun a Q=>by have R:=Option.some.inj Q;rw[←R];exact Nat.le_trans b3.size C))) (fb:=(by first|exact .inl rfl|exact .inr (fun a Q=>by have R:=Option.some.inj Q;rw[←R];exact Nat.le_trans b3.size C))) (A:=some (α s t)) (A':=some (α K 0)) (c:=c) (c':=q) a2.o ap.o T1.o T2.o bF);rw[←bi.o]at aO;have kf:=blk_set (blk_set ag.o 0 (.slice (some (α s t)) l.length c)) 1 (.slice (some (α K 0)) u.length q);have t4:((wr.setCell (α (w.heap.size+1) 0) (.slice (some (α s t)) l.length c)).setCell (α (w.heap.size+1) 1) (.slice (some (α K 0)) u.length q)).cell? (α (w.heap.size+1) 0)=some (.slice (some (α s t)) l.length c):=by rw[kf.cell];rfl
      have t5:((wr.setCell (α (w.heap.size+1) 0) (.slice (some (α s t)) l.length c)).setCell (α (w.heap.size+1) 1) (.slice (some (α K 0)) u.length q)).cell? (α (w.heap.size+1) 1)=some (.slice (some (α K 0)) u.length q):=by rw[kf.cell];rfl
      clear kf bF
      go_wp2_with fail
      exact bodyPost_ret (v:= .tuple #[.agg #[.slice (some (α s t)) l.length c,.slice (some (α K 0)) u.length q],ι 0,ι (-1)]) (by simp[results,Tryz.results71,go_sem,t4,t5]) rfl aO.o
theorem rrelease_fresh(A A':Option Addr)(c c':Nat)(l:List (Int×Int))(u:List Int)(n x:Int)(w:World)(hl:Hid (Nds w w.heap.size A l))(hu:Hid (Ris w w.heap.size A' u))(hg:GoodSt l u)(hn:inI n)(hx0: -9223372036854775808≤x)(hx1:x≤9223372036854775807):
  Calls Tryz.prog 108 #[.agg #[.slice A l.length c,.slice A' u.length c'],.int .i64 n,.int .i64 x] w (MadeRelR A A' l (relU l u n x) (relF l u n x) w):=by
 obtain⟨i0,hi,ah,aa,ab⟩:=info_parts i64_info;have hw:=κ hg.wf;have a5:=κ hg.wfi;have g1:=hg.few;have g2:(l.length:Int)≤32:=by omega
 have g3:(u.length:Int)≤32:=by rw[hg.len];omega
 have HG:=κ hg;obtain⟨P,hP⟩:=ν (pathF l 3 n);have HP:=κ hP;have p1:P.length≤3:=by rw[hP];exact path_le3 _ _ _
 clear hP hg;have b0:=γ w (.cells (vS A l.length c A' u.length c') 114) (.cells (vS none 0 0 none 0 0) 114);have k1:=κ ((Blk.fresh w 114 (vS A l.length c A' u.length c')).alloc (.cells (vS none 0 0 none 0 0) 114))
 have k2:Hid (Blk ((w.alloc (.cells (vS A l.length c A' u.length c') 114)).alloc (.cells (vS none 0 0 none 0 0) 114)) (w.heap.size+1) 114 (vS none 0 0 none 0 0)):=by
  have:=Blk.fresh (w.alloc (.cells (vS A l.length c A' u.length c') 114)) 114 (vS none 0 0 none 0 0);simp only[World.size_alloc]at this;exact this
 go_enter Tryz.func108,Tryz.ntmps108
 go_wp2_with fail
 refine(rpath_any A c l n _ (Rd.below' hl.o b0 b0.size) hw (by omega) hn).mono ?_;rintro e d ⟨A3,c3,rfl,ai,af⟩;rw[←HP.o]at ai ⊢;have HR:=κ ai;have b3:=below_step b0 af;have K1:=κ (Blk.below' k1.o af);have J:=κ (Blk.below' k2.o af);have HL:=θ hl.o b3;have HU:=η hu.o b3;clear k1 k2 af ai b0;have f0:=χ (K1.o.cell 0);have f1:=χ (K1.o.cell 1);have r0:=χ (J.o.cell 0);have r1:=χ (J.o.cell 1);have y0:=J.o.thaw 0;have y1:=J.o.thaw 1;have t3:=(b3.setCell (p:=(α (w.heap.size+1) 0)) (by simp) (.slice A l.length c)).setCell (p:=(α (w.heap.size+1) 1)) (by simp) (.slice A' u.length c');have T1:Hid (Nds ((d.setCell (α (w.heap.size+1) 0) (.slice A l.length c)).setCell (α (w.heap.size+1) 1) (.slice A' u.length c')) _ A l):=Rd.below' hl.o t3 t3.size;have T2:Hid (Ris ((d.setCell (α (w.heap.size+1) 0) (.slice A l.length c)).setCell (α (w.heap.size+1) 1) (.slice A' u.length c')) _ A' u):=Rd.below' hu.o t3 t3.size;have t4:((d.setCell (α (w.heap.size+1) 0) (.slice A l.length c)).setCell (α (w.heap.size+1) 1) (.slice A' u.length c')).cell? (α (w.heap.size+1) 0)=some (.slice A l.length c):=by rw[(blk_set (blk_set J.o 0 _) 1 _).cell];rfl
 have t5:((d.setCell (α (w.heap.size+1) 0) (.slice A l.length c)).setCell (α (w.heap.size+1) 1) (.slice A' u.length c')).cell? (α (w.heap.size+1) 1)=some (.slice A' u.length c'):=by rw[(blk_set (blk_set J.o 0 _) 1 _).cell];rfl
 by_cases hp0:P.length=0
 ·have q0:((P.length:Int)==0)=true:=beq_iff_eq.2 (by omega);have E:Hid (relF l u n x=false):=relF_0 (by rw[←HP.o];exact hp0);have G:Hid (relU l u n x=u):=by show _=_;rw[relU,E.o];rfl
  clear hp0
  go_wp2_with fail
  exact bodyPost_ret (v:= .tuple #[.agg #[.slice A l.length c,.slice A' u.length c'],.bool false]) (by simp[results,Tryz.results108,go_sem,t4,t5]) rfl (madeRel_mkR (fa:=(by first|exact .inl rfl|exact .inr (fun a R=>by have S:=Option.some.inj R;rw[←S];exact Nat.le_trans b3.size z))) (fb:=(by first|exact .inl rfl|exact .inr (fun a R=>by have S:=Option.some.inj R;rw[←S];exact Nat.le_trans b3.size z))) G.o E.o T1.o T2.o t3)
 have q0:((P.length:Int)==0)=false:=beq_eq_false_iff_ne.2 (by omega);by_cases hx:x<0
 ·have E:Hid (relF l u n x=false):=relF_m hx;have G:Hid (relU l u n x=u):=by show _=_;rw[relU,E.o];rfl
  clear hp0
  go_wp2_with fail
  exact bodyPost_ret (v:= .tuple #[.agg #[.slice A l.length c,.slice A' u.length c'],.bool false]) (by simp[results,Tryz.results108,go_sem,t4,t5]) rfl (madeRel_mkR (fa:=(by first|exact .inl rfl|exact .inr (fun a R=>by have S:=Option.some.inj R;rw[←S];exact Nat.le_trans b3.size z))) (fb:=(by first|exact .inl rfl|exact .inr (fun a R=>by have S:=Option.some.inj R;rw[←S];exact Nat.le_trans b3.size z))) G.o E.o T1.o T2.o t3)
 clear t4 t5 t3 T1 T2 r0 r1 y0 y1;have a6:decide (x<0)=false:=by simp;omega
 have aj:Hid (Apart u.length P):=by rw[HP.o];exact apart_path HG.o.okt HG.o.len n
 have aK:0<P.length:=by omega
 clear hp0;obtain⟨r,s,rfl,a7,ao⟩:=Nds.at HL.o (by have:=HG.o.one;omega);obtain⟨b2,o2,rfl,a8,ac⟩:=Ris.at (i:=0) HU.o (by rw[HG.o.len];have:=HG.o.one;omega);have a9:=κ ao;have ba:=κ ac;clear ao ac;have ap:Hid ((d.drew.alloc (.cells #[] 2)).ownsRow d.heap.size 2 1 (.slice (some (α d.heap.size 0)) 0 0) 0 []):=own_empty (by exact Blk.fresh d.drew _ _) (by simp);have W:Below d.heap.size d (d.drew.alloc (.cells #[] 2)):=(ψ.drew).alloc τ _;have aq:=κ (Rd.below HU.o W);have ar:=κ (Blk.below' K1.o W);have au:Hid (((d.drew.alloc (.cells #[] 2)).alloc (.cells (vS none 0 0 none 0 0) 114)).ownsRow d.heap.size 2 1 (.slice (some (α d.heap.size 0)) 0 0) 0 []):=own_empty (by exact(Blk.fresh d.drew _ _).alloc _) (by simp);have Y:Below d.heap.size d ((d.drew.alloc (.cells #[] 2)).alloc (.cells (vS none 0 0 none 0 0) 114)):=((ψ.drew).alloc τ _).alloc (by first|(simp;done)|(simp;omega)) _;have av:=κ (Rd.below HU.o Y);have aw:=κ (Blk.below' K1.o Y);have ax:Hid (((d.drew.alloc (.cells (vS none 0 0 none 0 0) 114)).alloc (.cells #[] 2)).ownsRow (d.heap.size+1) 2 1 (.slice (some (α (d.heap.size+1) 0)) 0 0) 0 []):=own_empty (by have:=Blk.fresh (d.drew.alloc (.cells (vS none 0 0 none 0 0) 114)) 2 #[];simp only[World.size_alloc]at this;exact this) (by simp);have Z:Below d.heap.size d ((d.drew.alloc (.cells (vS none 0 0 none 0 0) 114)).alloc (.cells #[] 2)):=((ψ.drew).alloc τ _).alloc (by first|(simp;done)|(simp;omega)) _;have ay:=κ (Rd.below HU.o Z);have az:=κ (Blk.below' K1.o Z)
 have aA:Hid (Blk ((d.drew.alloc (.cells #[] 2)).alloc (.cells (vS none 0 0 none 0 0) 114)) (d.heap.size+1) 114 (vS none 0 0 none 0 0)):=by
  have:=Blk.fresh (d.drew.alloc (.cells #[] 2)) 114 (vS none 0 0 none 0 0);simp only[World.size_alloc]at this;exact this
 have aB:Hid (Blk ((d.drew.alloc (.cells (vS none 0 0 none 0 0) 114)).alloc (.cells #[] 2)) d.heap.size 114 (vS none 0 0 none 0 0)):=(Blk.fresh d.drew _ _).alloc _
 go_wp2_with fail
 go_region_held3 (fun w'=>w'.cell? ⟨w.heap.size,0,none⟩=some (.slice (some ⟨r,s,none⟩) l.length c)∧w'.cell? ⟨w.heap.size,1,none⟩=some (.slice (some ⟨b2,o2,none⟩) u.length c'))
  (first|go_keep|(exact⟨v0,v1⟩)|(exact⟨v2 _ _,v3 _ _⟩))
  (first
   |(refine step_appG (nm:=u.length) ap aq (by simp) rfl _ _ _ rfl i0 (.int .i64 0) 8 Tryz.underlying112 hi ah aa ab rfl (by decide) rfl rfl (by rw[ints_len];omega) (ints_one u) (by unfold maxLen;omega) (by omega) (by first|(simp;done)|(simp;omega)) ?_;intro K j L q f;have F:=κ (Blk_grown ar.o f (by simp[Value.ownBlock];have:=J.o.lt;omega));have v0:=χ (F.o.cell 0);have v1:=χ (F.o.cell 1))
   |(refine step_appG (nm:=u.length) au av (by simp) rfl _ _ _ rfl i0 (.int .i64 0) 8 Tryz.underlying112 hi ah aa ab rfl (by decide) rfl rfl (by rw[ints_len];omega) (ints_one u) (by unfold maxLen;omega) (by omega) (by first|(simp;done)|(simp;omega)) ?_;intro K j L q f;have F:=κ (Blk_grown aw.o f (by simp[Value.ownBlock];have:=J.o.lt;omega));have v0:=χ (F.o.cell 0);have v1:=χ (F.o.cell 1);have C:=κ (Blk_grown aA.o f (by simp[Value.ownBlock]));have s0:=χ (C.o.cell 0);have s1:=χ (C.o.cell 1);have s2:=C.o.thaw 0;have s3:=C.o.thaw 1;have v2:=ξ (fun x y=>(blk_far (blk_far F.o (p:=⟨d.heap.size+1,0,none⟩) (by have:=J.o.lt;simp;omega) x) (p:=⟨d.heap.size+1,1,none⟩) (by have:=J.o.lt;simp;omega) y).cell 0);have v3:=ξ (fun x y=>(blk_far (blk_far F.o (p:=⟨d.heap.size+1,0,none⟩) (by have:=J.o.lt;simp;omega) x) (p:=⟨d.heap.size+1,1,none⟩) (by have:=J.o.lt;simp;omega) y).cell 1))
   |(refine step_appG (nm:=u.length) ax ay (by simp) rfl _ _ _ rfl i0 (.int .i64 0) 8 Tryz.underlying112 hi ah aa ab rfl (by decide) rfl rfl (by rw[ints_len];omega) (ints_one u) (by unfold maxLen;omega) (by omega) (by first|(simp;done)|(simp;omega)) ?_;intro K j L q f;have F:=κ (Blk_grown az.o f (by simp[Value.ownBlock];have:=J.o.lt;omega));have v0:=χ (F.o.cell 0);have v1:=χ (F.o.cell 1);have C:=κ (Blk_grown aB.o f (by simp[Value.ownBlock]));have s0:=χ (C.o.cell 0);have s1:=χ (C.o.cell 1);have s2:=C.o.thaw 0;have s3:=C.o.thaw 1;have v2:=ξ (fun x y=>(blk_far (blk_far F.o (p:=⟨d.heap.size,0,none⟩) (by have:=J.o.lt;simp;omega) x) (p:=⟨d.heap.size,1,none⟩) (by have:=J.o.lt;simp;omega) y).cell 0);have v3:=ξ (fun x y=>(blk_far (blk_far F.o (p:=⟨d.heap.size,0,none⟩) (by have:=J.o.lt;simp;omega) x) (p:=⟨d.heap.size,1,none⟩) (by have:=J.o.lt;simp;omega) y).cell 1)))
 have ak:d.heap.size≤L.heap.size:=by have:=f.size;simp at this;omega
 have Q:Hid (Blk (L.alloc (.cells (vS (some (α r s)) l.length c K u.length j) 114)) L.heap.size 114 (vS (some (α r s)) l.length c K u.length j)):=Blk.fresh L 114 (vS (some (α r s)) l.length c K u.length j);have T:Below d.heap.size d (L.alloc (.cells (vS (some (α r s)) l.length c K u.length j) 114)):=(W.grown f (by first|(simp;done)|(simp;omega)) (by simp[Value.ownBlock])).alloc ak _;have t:Hid ((L.alloc (.cells (vS (some (α r s)) l.length c K u.length j) 114)).ownsRow d.heap.size 2 1 (.slice K u.length j) u.length (ints u)):=World.ownsRow.alloc q.o _;have ad:d.heap.size≤L.heap.size:=by omega
 clear f q;generalize (L.alloc (.cells (vS (some (α r s)) l.length c K u.length j) 114))=w6 at Q T t ⊢;generalize ae:L.heap.size=gO at Q ad ⊢;clear ae;rotate_left;have ak:d.heap.size≤L.heap.size:=by have:=f.size;simp at this;omega
 have Q:Hid (Blk ((L.setCell (α (d.heap.size+1) 0) (.slice (some (α r s)) l.length c)).setCell (α (d.heap.size+1) 1) (.slice K u.length j)) (d.heap.size+1) 114 (vS (some (α r s)) l.length c K u.length j)):=blk_set (blk_set C.o 0 _) 1 _;have T:Below d.heap.size d ((L.setCell (α (d.heap.size+1) 0) (.slice (some (α r s)) l.length c)).setCell (α (d.heap.size+1) 1) (.slice K u.length j)):=((Y.grown f (by first|(simp;done)|(simp;omega)) (by simp[Value.ownBlock])).setCell (by simp) _).setCell (by simp) _;have t:Hid (((L.setCell (α (d.heap.size+1) 0) (.slice (some (α r s)) l.length c)).setCell (α (d.heap.size+1) 1) (.slice K u.length j)).ownsRow d.heap.size 2 1 (.slice K u.length j) u.length (ints u)):=own_set2 q.o C.o (by decide) _ _;have ad:d.heap.size≤(d.heap.size+1):=by omega
 clear f q;generalize ((L.setCell (α (d.heap.size+1) 0) (.slice (some (α r s)) l.length c)).setCell (α (d.heap.size+1) 1) (.slice K u.length j))=w6 at Q T t ⊢;generalize ae:(d.heap.size+1)=gO at Q ad ⊢;clear ae;rotate_left;have ak:d.heap.size≤L.heap.size:=by have:=f.size;simp at this;omega
 have Q:Hid (Blk ((L.setCell (α d.heap.size 0) (.slice (some (α r s)) l.length c)).setCell (α d.heap.size 1) (.slice K u.length j)) d.heap.size 114 (vS (some (α r s)) l.length c K u.length j)):=blk_set (blk_set C.o 0 _) 1 _;have T:Below d.heap.size d ((L.setCell (α d.heap.size 0) (.slice (some (α r s)) l.length c)).setCell (α d.heap.size 1) (.slice K u.length j)):=((Z.grown f (by first|(simp;done)|(simp;omega)) (by simp[Value.ownBlock])).setCell (by simp) _).setCell (by simp) _;have t:Hid (((L.setCell (α d.heap.size 0) (.slice (some (α r s)) l.length c)).setCell (α d.heap.size 1) (.slice K u.length j)).ownsRow d.heap.size 2 1 (.slice K u.length j) u.length (ints u)):=own_mono (own_set2 q.o C.o (by decide) _ _) (by omega);have ad:d.heap.size≤d.heap.size:=by omega
 clear f q;generalize ((L.setCell (α d.heap.size 0) (.slice (some (α r s)) l.length c)).setCell (α d.heap.size 1) (.slice K u.length j))=w6 at Q T t ⊢;generalize ae:d.heap.size=gO at Q ad ⊢;clear ae;rotate_left
 all_goals
  clear aq av ay W Y Z ap au ax ar aw az aA aB
  go_wp2_with fail
 all_goals
  obtain⟨H,rfl,z,bb,aa,ab,aL⟩:=own_at t.o (by rw[HG.o.len];have:=HG.o.one;omega);clear aa ab aL;have bc:=η HR.o T;have aM:Hid (w6.ownsRow d.heap.size 2 1 (.slice (some (α H 0)) u.length j) u.length (ints (addF u (P.take 0) (-x)))):=by rw[List.take_zero,addF_nil];exact t.o
  go_loopg [10] P.length (fun g aN w'=> ∃k:Nat,k+g=P.length∧aN= ι k∧Hid (∀i,i<k→x≤gI u (gI P i).toNat)∧Hid (w'.ownsRow d.heap.size 2 1 (.slice (some (α H 0)) u.length j) u.length (ints (addF u (P.take k) (-x))))∧Hid (Blk w' gO 114 (vS (some (α r s)) l.length c (some (α H 0)) u.length j))∧Below d.heap.size d w')
  case atStart=>exact⟨0,by omega,rfl,fun i hi=>absurd hi (Nat.not_lt_zero i),aM,Q,T⟩
  case round=>
   obtain⟨k,hk,rfl,al,hrow,Q,U⟩:=hrel;by_cases hlt:(k:Int)<(P.length:Int)
   ·obtain⟨g,rfl⟩: ∃g,gk=g+1:=⟨gk-1,by omega⟩;have hm:=aj.o.1 k (by omega);have am:=addF_at (x:= -x) aj.o (show k<P.length by omega);have V:=addF_step (x:= -x) aj.o (show k<P.length by omega);obtain⟨m,ag⟩:=ν (gI P k);have HM:=κ ag;rw[←ag]at hm am V;obtain⟨bd,be⟩:=hm;obtain⟨b,o,rfl,hb,aC⟩:=Ris.at (i:=k) HR.o (by omega);have d0:wr.cell? (α b (o+k))=some (ι m):=by rw[ag];exact(U.cell (p:=(α b (o+k))) hb).trans (aC k (by omega))
    have aO:m.toNat<l.length:=by rw[←HG.o.len];omega
    have bf:m<u.length:=by omega
    obtain⟨aP,aQ,aR,aS,aT,ac,aD⟩:=own_at hrow.o (by rw[addF_len];omega);clear aR aS aT;obtain rfl:H=aP:=by injection aQ with e;injection e
    have aE:=ac m.toNat (by rw[addF_len];omega);rw[am]at aE;obtain⟨d1,d2⟩:=aE;have an:=aD m.toNat (gI u m.toNat-x) (by rw[addF_len];omega);rw[Int.sub_eq_add_neg,V]at an;have aU:=HG.o.uok m.toNat (by omega);have aV:=HG.o.okt m.toNat aO;obtain⟨bg,bh⟩:=aU;obtain⟨_,_,bi,bj,_⟩:=aV;have d3:=χ (Q.o.cell 1)
    have aF:gO≠H:=by
     rintro rfl;rw[Q.o.cell]at d1;have:m.toNat=0∨m.toNat=1∨2≤m.toNat:=by omega
     rcases this with h|h|h
     ·rw[h]at d1;simp at d1
     ·rw[h]at d1;simp at d1
     ·rw[Array.getElem?_eq_none (by simpa using h)]at d1;cases d1
    have aW:b≠H:=by omega
    have d4:=ξ (fun y=>(blk_far Q.o (p:=(α H m.toNat)) (by simpa using aF) y).cell 1)
    have d5: ∀y,(wr.setCell (α H m.toNat) y).cell? (α b (o+k))=some (ι m):=fun y=>by
     rw[World.cell?_setCell_other _ _ _ _ (by intro e;injection e with e;exact aW e.symm)];exact d0
    have aX:Hid ((wr.setCell (α H m.toNat) (ι (gI u m.toNat-x))).ownsRow d.heap.size 2 1 (.slice (some (α H 0)) u.length j) u.length (ints (addF u (P.take (k+1)) (-x)))):=an;have aY:Hid (Blk (wr.setCell (α H m.toNat) (ι (gI u m.toNat-x))) gO 114 (vS (some (α r s)) l.length c (some (α H 0)) u.length j)):=blk_far Q.o (p:=(α H m.toNat)) (by simpa using aF) _;have O:Below d.heap.size d (wr.setCell (α H m.toNat) (ι (gI u m.toNat-x))):=U.setCell (by simpa using z) _;clear aC ag am V ac aD an hrow;by_cases hfit:gI u m.toNat<x
    ·have E:=κ (relF_no (i:=k) (by rw[←HP.o];omega) (by rw[←HP.o,←HM.o];exact hfit));have G:Hid (relU l u n x=u):=by show _=_;rw[relU,E.o];rfl
     have aG:=κ (Blk.below K1.o U K1.o.lt);have I:=κ (Blk.below J.o U J.o.lt);have f0:=χ (aG.o.cell 0);have f1:=χ (aG.o.cell 1);have r0:=χ (I.o.cell 0);have r1:=χ (I.o.cell 1);have y0:=I.o.thaw 0;have y1:=I.o.thaw 1;have bF:=((below_step b3 U).setCell (p:=(α (w.heap.size+1) 0)) (by simp) (.slice (some (α r s)) l.length c)).setCell (p:=(α (w.heap.size+1) 1)) (by simp) (.slice (some (α b2 o2)) u.length c');have T1:=κ (Rd.below' hl.o bF bF.size);have T2:=κ (Rd.below' hu.o bF bF.size);have kf:=blk_set (blk_set I.o 0 (.slice (some (α r s)) l.length c)) 1 (.slice (some (α b2 o2)) u.length c');have aZ: ∀N,(((wr.drewN N).setCell (α (w.heap.size+1) 0) (.slice (some (α r s)) l.length c)).setCell (α (w.heap.size+1) 1) (.slice (some (α b2 o2)) u.length c')).cell? (α (w.heap.size+1) 0)=some (.slice (some (α r s)) l.length c):=fun N=>kf.cell 0
     have a0: ∀N,(((wr.drewN N).setCell (α (w.heap.size+1) 0) (.slice (some (α r s)) l.length c)).setCell (α (w.heap.size+1) 1) (.slice (some (α b2 o2)) u.length c')).cell? (α (w.heap.size+1) 1)=some (.slice (some (α b2 o2)) u.length c'):=fun N=>kf.cell 1
     have BF:=κ bF;clear kf bF al
     go_wp2_with fail
     go_quiet (fail)
     go_wp2_with fail
     exact bodyPost_ret (v:= .tuple #[.agg #[.slice (some (α r s)) l.length c,.slice (some (α b2 o2)) u.length c'],.bool false]) (by simp[results,Tryz.results108,go_sem,aZ,a0]) rfl (madeRel_mkR (fa:=(by first|exact .inl rfl|exact .inr (fun a R=>by have S:=Option.some.inj R;rw[←S];exact Nat.le_trans b3.size z))) (fb:=(by first|exact .inl rfl|exact .inr (fun a R=>by have S:=Option.some.inj R;rw[←S];exact Nat.le_trans b3.size z))) G.o E.o T1.o T2.o ⟨BF.o.os,BF.o.tape,BF.o.output,BF.o.size,BF.o.block⟩)
    ·have a1:Hid (∀i,i<k+1→x≤gI u (gI P i).toNat):=fun i hi=>by
      by_cases e:i=k
      ·subst e;rw[←HM.o];omega
      ·exact al.o i (by omega)
     go_wp2_with fail
     go_quiet (fail)
     go_wp2_with fail
     go_region
     all_goals
      go_wp2_with fail
      go_roundg g
      case measure=>omega
      case rel=>exact⟨k+1,by omega,by go_num,a1,aX,aY,⟨O.os,O.tape,O.output,O.size,O.block⟩⟩
   ·have aH:=κ (relF_t (by rw[←HP.o];exact aK) (by omega) (fun i hi=>by rw[←HP.o]at hi ⊢;exact al.o i (by omega)));have a2:Hid (relU l u n x=addF u P (-x)):=by show _=_;rw[relU,aH.o,if_pos rfl,←HP.o]
    have a3:Hid (wr.ownsRow d.heap.size 2 1 (.slice (some (α H 0)) u.length j) u.length (ints (addF u P (-x)))):=by
     have:k=P.length:=by omega
     subst this;rw[addF_full]at hrow;exact hrow
    have a4:Hid (u.length=(addF u P (-x)).length):=(addF_len _ _ _).symm;have I:=κ (Blk.below J.o U J.o.lt);have aI:=J.o.lt;have d2:=χ (Q.o.cell 0);have d3:=χ (Q.o.cell 1);have r0:=χ (I.o.cell 0);have r1:=χ (I.o.cell 1);have y0:=I.o.thaw 0;have y1:=I.o.thaw 1;have bF:=((below_step b3 U).setCell (p:=(α (w.heap.size+1) 0)) (by simp) (.slice (some (α r s)) l.length c)).setCell (p:=(α (w.heap.size+1) 1)) (by simp) (.slice (some (α H 0)) u.length j);have T1:=κ (Rd.below' hl.o bF bF.size);have T2:=κ (Rd.of_own (ownsRow_setCell_below (ownsRow_setCell_below a3.o (a:=(α (w.heap.size+1) 0)) aI (.slice (some (α r s)) l.length c)) (a:=(α (w.heap.size+1) 1)) aI (.slice (some (α H 0)) u.length j)));have aJ:=κ (madeRel_mkR (X:=some (α r s)) (X':=some (α b2 o2)) (fa:=(by first|exact .inl rfl|exact .inr (fun a R=>by have S:=Option.some.inj R;rw[←S];exact Nat.le_trans b3.size z))) (fb:=(by first|exact .inl rfl|exact .inr (fun a R=>by have S:=Option.some.inj R;rw[←S];exact Nat.le_trans b3.size z))) (A:=some (α r s)) (A':=some (α H 0)) (c:=c) (c':=j) a2.o aH.o T1.o T2.o bF);rw[←a4.o]at aJ;have kf:=blk_set (blk_set I.o 0 (.slice (some (α r s)) l.length c)) 1 (.slice (some (α H 0)) u.length j);have t4:((wr.setCell (α (w.heap.size+1) 0) (.slice (some (α r s)) l.length c)).setCell (α (w.heap.size+1) 1) (.slice (some (α H 0)) u.length j)).cell? (α (w.heap.size+1) 0)=some (.slice (some (α r s)) l.length c):=by rw[kf.cell];rfl
    have t5:((wr.setCell (α (w.heap.size+1) 0) (.slice (some (α r s)) l.length c)).setCell (α (w.heap.size+1) 1) (.slice (some (α H 0)) u.length j)).cell? (α (w.heap.size+1) 1)=some (.slice (some (α H 0)) u.length j):=by rw[kf.cell];rfl
    clear kf bF
    go_wp2_with fail
    exact bodyPost_ret (v:= .tuple #[.agg #[.slice (some (α r s)) l.length c,.slice (some (α H 0)) u.length j],.bool true]) (by simp[results,Tryz.results108,go_sem,t4,t5]) rfl aJ.o
theorem rlimit_fresh(A A':Option Addr)(c c':Nat)(l:List (Int×Int))(u:List Int)(n x:Int)(w:World)(hl:Hid (Nds w w.heap.size A l))(hu:Hid (Ris w w.heap.size A' u))(hg:GoodSt l u)(hn:inI n)(hx0: -9223372036854775808≤x)(hx1:x≤9223372036854775807):
  Calls Tryz.prog 44 #[.agg #[.slice A l.length c,.slice A' u.length c'],.int .i64 n,.int .i64 x] w (MadeLimR A A' (limL l n x) u (limF l n x) w):=by
 obtain⟨i0,hi,aa,S,K⟩:=info_parts rnode_info;have g1:=hg.few;have g2:(l.length:Int)≤32:=by omega
 have g3:(u.length:Int)≤32:=by rw[hg.len];omega
 obtain⟨az,aA⟩:=hn;have HG:=κ hg;clear hg;obtain⟨d,T⟩:=ν ((w.alloc (.cells #[.slice A l.length c,.slice A' u.length c'] 114)).alloc (.cells #[.slice none 0 0,.slice none 0 0] 114));have av:=κ T;have L:Below w.heap.size w d:=by rw[T];exact(ψ.alloc τ _).alloc (by simp) _
 have K1:Hid (Blk d w.heap.size 114 (vS A l.length c A' u.length c')):=by rw[T];exact(Blk.fresh w _ _).alloc _
 have G:Hid (Blk d (w.heap.size+1) 114 (vS none 0 0 none 0 0)):=by
  have:=Blk.fresh (w.alloc (.cells (vS A l.length c A' u.length c') 114)) 114 (vS none 0 0 none 0 0);simp only[World.size_alloc]at this;rw[T];exact this
 have HL:=θ hl.o L;have HU:=η hu.o L;clear T;have f0:=χ (K1.o.cell 0);have f1:=χ (K1.o.cell 1);have r0:=χ (G.o.cell 0);have r1:=χ (G.o.cell 1);have y0:=G.o.thaw 0;have y1:=G.o.thaw 1;have T3:=γ w (.cells (vS A l.length c A' u.length c') 114) (.cells (vS A l.length c A' u.length c') 114);have T1:Hid (Nds ((w.alloc (.cells (vS A l.length c A' u.length c') 114)).alloc (.cells (vS A l.length c A' u.length c') 114)) _ A l):=Rd.below' hl.o T3 T3.size;have T2:Hid (Ris ((w.alloc (.cells (vS A l.length c A' u.length c') 114)).alloc (.cells (vS A l.length c A' u.length c') 114)) _ A' u):=Rd.below' hu.o T3 T3.size
 have kf:Blk ((w.alloc (.cells (vS A l.length c A' u.length c') 114)).alloc (.cells (vS A l.length c A' u.length c') 114)) (w.heap.size+1) 114 (vS A l.length c A' u.length c'):=by
  have:=Blk.fresh (w.alloc (.cells (vS A l.length c A' u.length c') 114)) 114 (vS A l.length c A' u.length c');simp only[World.size_alloc]at this;exact this
 have t4:=χ (kf.cell 0);have t5:=χ (kf.cell 1);clear kf;by_cases hin:inR l.length n=true
 ·obtain⟨aB,aC⟩:=inR_of hin;by_cases hx:x<0∨4611686018427387904<x
  ·have j:Hid (limF l n x=1):=by show _=_;rw[limF,if_pos hin,if_pos hx]
   have k:Hid (limL l n x=l):=by show _=_;rw[limL,j.o];rfl
   clear hin;by_cases hx2:x<0
   ·clear hx
    go_enter Tryz.func44,Tryz.ntmps44
    go_wp2_with fail
    exact bodyPost_ret (v:= .tuple #[.agg #[.slice A l.length c,.slice A' u.length c'],ι 1]) (by simp[results,Tryz.results44,go_sem,t4,t5]) rfl (madeLim_mkR (fa:=(by first|exact .inl rfl|exact .inr (fun a E=>by have F:=Option.some.inj E;rw[←F];exact Nat.le_trans L.size f))) (fb:=(by first|exact .inl rfl|exact .inr (fun a E=>by have F:=Option.some.inj E;rw[←F];exact Nat.le_trans L.size f))) k.o j.o T1.o T2.o T3)
   ·have aD:4611686018427387904<x:=by omega
    clear hx
    go_enter Tryz.func44,Tryz.ntmps44
    go_wp2_with fail
    exact bodyPost_ret (v:= .tuple #[.agg #[.slice A l.length c,.slice A' u.length c'],ι 1]) (by simp[results,Tryz.results44,go_sem,t4,t5]) rfl (madeLim_mkR (fa:=(by first|exact .inl rfl|exact .inr (fun a E=>by have F:=Option.some.inj E;rw[←F];exact Nat.le_trans L.size f))) (fb:=(by first|exact .inl rfl|exact .inr (fun a E=>by have F:=Option.some.inj E;rw[←F];exact Nat.le_trans L.size f))) k.o j.o T1.o T2.o T3)
  have j:Hid (limF l n x=0):=by show _=_;rw[limF,if_pos hin,if_neg hx]
  have k:Hid (limL l n x=l.set n.toNat (nP l n.toNat,x)):=by show _=_;rw[limL,j.o];rfl
  have aE:0≤x:=by omega
  have aF:x≤4611686018427387904:=by omega
  have ac:n.toNat<l.length:=by omega
  clear hx hin t4 t5 T1 T2 T3;have aG:=HG.o.one;have aH:1≤u.length:=by rw[HG.o.len];exact HG.o.one
  obtain⟨b1,o1,rfl,aI,aw⟩:=Nds.at HL.o (by omega);obtain⟨r,s,rfl,aJ,ax⟩:=Ris.at (i:=0) HU.o (by omega);clear aw ax
  go_enter Tryz.func44,Tryz.ntmps44
  go_wp2_with fail
  rw[←av.o];have ad:Hid ((d.drew.alloc (.cells #[] 133)).ownsRow d.heap.size 133 2 (.slice (some (α d.heap.size 0)) 0 0) 0 []):=own_empty (by exact Blk.fresh d.drew _ _) (by simp);have H:Below d.heap.size d (d.drew.alloc (.cells #[] 133)):=(ψ.drew).alloc τ _;have ae:=κ (Rd.below HL.o H);have af:=κ (Blk.below' K1.o H);have ag:Hid (((d.drew.alloc (.cells #[] 133)).alloc (.cells (vS none 0 0 none 0 0) 114)).ownsRow d.heap.size 133 2 (.slice (some (α d.heap.size 0)) 0 0) 0 []):=own_empty (by exact(Blk.fresh d.drew _ _).alloc _) (by simp);have I:Below d.heap.size d ((d.drew.alloc (.cells #[] 133)).alloc (.cells (vS none 0 0 none 0 0) 114)):=((ψ.drew).alloc τ _).alloc (by first|(simp;done)|(simp;omega)) _;have ah:=κ (Rd.below HL.o I);have ai:=κ (Blk.below' K1.o I);have aj:Hid (((d.drew.alloc (.cells (vS none 0 0 none 0 0) 114)).alloc (.cells #[] 133)).ownsRow (d.heap.size+1) 133 2 (.slice (some (α (d.heap.size+1) 0)) 0 0) 0 []):=own_empty (by have:=Blk.fresh (d.drew.alloc (.cells (vS none 0 0 none 0 0) 114)) 133 #[];simp only[World.size_alloc]at this;exact this) (by simp);have J:Below d.heap.size d ((d.drew.alloc (.cells (vS none 0 0 none 0 0) 114)).alloc (.cells #[] 133)):=((ψ.drew).alloc τ _).alloc (by first|(simp;done)|(simp;omega)) _;have ak:=κ (Rd.below HL.o J);have al:=κ (Blk.below' K1.o J)
  have am:Hid (Blk ((d.drew.alloc (.cells #[] 133)).alloc (.cells (vS none 0 0 none 0 0) 114)) (d.heap.size+1) 114 (vS none 0 0 none 0 0)):=by
   have:=Blk.fresh (d.drew.alloc (.cells #[] 133)) 114 (vS none 0 0 none 0 0);simp only[World.size_alloc]at this;exact this
  have an:Hid (Blk ((d.drew.alloc (.cells (vS none 0 0 none 0 0) 114)).alloc (.cells #[] 133)) d.heap.size 114 (vS none 0 0 none 0 0)):=(Blk.fresh d.drew _ _).alloc _
  go_wp2_with fail
  go_region_held3 (fun w'=>w'.cell? ⟨w.heap.size,0,none⟩=some (.slice (some ⟨b1,o1,none⟩) l.length c)∧w'.cell? ⟨w.heap.size,1,none⟩=some (.slice (some ⟨r,s,none⟩) u.length c'))
   (first|go_keep|(exact⟨v0,v1⟩)|(exact⟨v2 _ _,v3 _ _⟩))
   (first
    |(refine step_appG (nm:=l.length) ad ae (by simp) rfl _ _ _ rfl i0 (.agg #[.int .i64 0,.int .i64 0]) 16 Tryz.underlying22 hi aa S K rfl (by decide) rfl rfl (nds_len l) (nds_one l) (by unfold maxLen;omega) (by omega) (by first|(simp;done)|(simp;omega)) ?_;intro z m C g e;have t:=κ (Blk_grown af.o e (by simp[Value.ownBlock];have:=G.o.lt;omega));have v0:=χ (t.o.cell 0);have v1:=χ (t.o.cell 1))
    |(refine step_appG (nm:=l.length) ag ah (by simp) rfl _ _ _ rfl i0 (.agg #[.int .i64 0,.int .i64 0]) 16 Tryz.underlying22 hi aa S K rfl (by decide) rfl rfl (nds_len l) (nds_one l) (by unfold maxLen;omega) (by omega) (by first|(simp;done)|(simp;omega)) ?_;intro z m C g e;have t:=κ (Blk_grown ai.o e (by simp[Value.ownBlock];have:=G.o.lt;omega));have v0:=χ (t.o.cell 0);have v1:=χ (t.o.cell 1);have o:=κ (Blk_grown am.o e (by simp[Value.ownBlock]));have s0:=χ (o.o.cell 0);have s1:=χ (o.o.cell 1);have s2:=o.o.thaw 0;have s3:=o.o.thaw 1;have v2:=ξ (fun x y=>(blk_far (blk_far t.o (p:=⟨d.heap.size+1,0,none⟩) (by have:=G.o.lt;simp;omega) x) (p:=⟨d.heap.size+1,1,none⟩) (by have:=G.o.lt;simp;omega) y).cell 0);have v3:=ξ (fun x y=>(blk_far (blk_far t.o (p:=⟨d.heap.size+1,0,none⟩) (by have:=G.o.lt;simp;omega) x) (p:=⟨d.heap.size+1,1,none⟩) (by have:=G.o.lt;simp;omega) y).cell 1))
    |(refine step_appG (nm:=l.length) aj ak (by simp) rfl _ _ _ rfl i0 (.agg #[.int .i64 0,.int .i64 0]) 16 Tryz.underlying22 hi aa S K rfl (by decide) rfl rfl (nds_len l) (nds_one l) (by unfold maxLen;omega) (by omega) (by first|(simp;done)|(simp;omega)) ?_;intro z m C g e;have t:=κ (Blk_grown al.o e (by simp[Value.ownBlock];have:=G.o.lt;omega));have v0:=χ (t.o.cell 0);have v1:=χ (t.o.cell 1);have o:=κ (Blk_grown an.o e (by simp[Value.ownBlock]));have s0:=χ (o.o.cell 0);have s1:=χ (o.o.cell 1);have s2:=o.o.thaw 0;have s3:=o.o.thaw 1;have v2:=ξ (fun x y=>(blk_far (blk_far t.o (p:=⟨d.heap.size,0,none⟩) (by have:=G.o.lt;simp;omega) x) (p:=⟨d.heap.size,1,none⟩) (by have:=G.o.lt;simp;omega) y).cell 0);have v3:=ξ (fun x y=>(blk_far (blk_far t.o (p:=⟨d.heap.size,0,none⟩) (by have:=G.o.lt;simp;omega) x) (p:=⟨d.heap.size,1,none⟩) (by have:=G.o.lt;simp;omega) y).cell 1)))
  have U:d.heap.size≤C.heap.size:=by have:=e.size;simp at this;omega
  have R:Hid (Blk (C.alloc (.cells (vS z l.length m (some (α r s)) u.length c') 114)) C.heap.size 114 (vS z l.length m (some (α r s)) u.length c')):=Blk.fresh C 114 (vS z l.length m (some (α r s)) u.length c');have O:Below d.heap.size d (C.alloc (.cells (vS z l.length m (some (α r s)) u.length c') 114)):=(H.grown e (by first|(simp;done)|(simp;omega)) (by simp[Value.ownBlock])).alloc U _;have q:Hid ((C.alloc (.cells (vS z l.length m (some (α r s)) u.length c') 114)).ownsRow d.heap.size 133 2 (.slice z l.length m) l.length (nds l)):=World.ownsRow.alloc g.o _;have V:d.heap.size≤C.heap.size:=by omega
  clear e g;generalize (C.alloc (.cells (vS z l.length m (some (α r s)) u.length c') 114))=w6 at R O q ⊢;generalize W:C.heap.size=gO at R V ⊢;clear W;rotate_left;have U:d.heap.size≤C.heap.size:=by have:=e.size;simp at this;omega
  have R:Hid (Blk ((C.setCell (α (d.heap.size+1) 0) (.slice z l.length m)).setCell (α (d.heap.size+1) 1) (.slice (some (α r s)) u.length c')) (d.heap.size+1) 114 (vS z l.length m (some (α r s)) u.length c')):=blk_set (blk_set o.o 0 _) 1 _;have O:Below d.heap.size d ((C.setCell (α (d.heap.size+1) 0) (.slice z l.length m)).setCell (α (d.heap.size+1) 1) (.slice (some (α r s)) u.length c')):=((I.grown e (by first|(simp;done)|(simp;omega)) (by simp[Value.ownBlock])).setCell (by simp) _).setCell (by simp) _;have q:Hid (((C.setCell (α (d.heap.size+1) 0) (.slice z l.length m)).setCell (α (d.heap.size+1) 1) (.slice (some (α r s)) u.length c')).ownsRow d.heap.size 133 2 (.slice z l.length m) l.length (nds l)):=own_set2 g.o o.o (by decide) _ _;have V:d.heap.size≤(d.heap.size+1):=by omega
  clear e g;generalize ((C.setCell (α (d.heap.size+1) 0) (.slice z l.length m)).setCell (α (d.heap.size+1) 1) (.slice (some (α r s)) u.length c'))=w6 at R O q ⊢;generalize W:(d.heap.size+1)=gO at R V ⊢;clear W;rotate_left;have U:d.heap.size≤C.heap.size:=by have:=e.size;simp at this;omega
  have R:Hid (Blk ((C.setCell (α d.heap.size 0) (.slice z l.length m)).setCell (α d.heap.size 1) (.slice (some (α r s)) u.length c')) d.heap.size 114 (vS z l.length m (some (α r s)) u.length c')):=blk_set (blk_set o.o 0 _) 1 _;have O:Below d.heap.size d ((C.setCell (α d.heap.size 0) (.slice z l.length m)).setCell (α d.heap.size 1) (.slice (some (α r s)) u.length c')):=((J.grown e (by first|(simp;done)|(simp;omega)) (by simp[Value.ownBlock])).setCell (by simp) _).setCell (by simp) _;have q:Hid (((C.setCell (α d.heap.size 0) (.slice z l.length m)).setCell (α d.heap.size 1) (.slice (some (α r s)) u.length c')).ownsRow d.heap.size 133 2 (.slice z l.length m) l.length (nds l)):=own_mono (own_set2 g.o o.o (by decide) _ _) (by omega);have V:d.heap.size≤d.heap.size:=by omega
  clear e g;generalize ((C.setCell (α d.heap.size 0) (.slice z l.length m)).setCell (α d.heap.size 1) (.slice (some (α r s)) u.length c'))=w6 at R O q ⊢;generalize W:d.heap.size=gO at R V ⊢;clear W;rotate_left
  all_goals
   clear ae ah ak H I J ad ag aj af ai al am an;obtain⟨P,rfl,f,aK,S,K,ao⟩:=own_at2 q.o (by omega);obtain⟨d1,d2,d3⟩:=K n.toNat ac;have ap:=ao n.toNat x ac;clear S K ao;have Y:=G.o.lt;have e0:=χ (R.o.cell 0);have e1:=χ (R.o.cell 1)
   have ay:gO≠P:=by
    rintro rfl;rw[R.o.cell]at d2;have:n.toNat*2+1=1∨2≤n.toNat*2+1:=by omega
    rcases this with h|h
    ·rw[h]at d2;simp at d2
    ·rw[Array.getElem?_eq_none (by simpa using h)]at d2;cases d2
   have Z:Below d.heap.size d (w6.setCell (α P (n.toNat*2+1)) (ι x)):=O.setCell (by simpa using f) _;have ab:=blk_far R.o (p:=(α P (n.toNat*2+1))) (by simpa using ay) (ι x);have Q:=Blk.below G.o Z Y;have v0:=χ (ab.cell 0);have v1:=χ (ab.cell 1);have s0:=χ (Q.cell 0);have s1:=χ (Q.cell 1);have s2:=Q.thaw 0;have s3:=Q.thaw 1;have bF:=((below_step L Z).setCell (p:=(α (w.heap.size+1) 0)) (by simp) (.slice (some (α P 0)) l.length m)).setCell (p:=(α (w.heap.size+1) 1)) (by simp) (.slice (some (α r s)) u.length c');have T2:=κ (Rd.below' hu.o bF bF.size);have T1:=κ (Rd.of_own (ownsRow_setCell_below (ownsRow_setCell_below ap (a:=(α (w.heap.size+1) 0)) Y (.slice (some (α P 0)) l.length m)) (a:=(α (w.heap.size+1) 1)) Y (.slice (some (α r s)) u.length c')));have aq:=κ (madeLim_mkR (X:=some (α b1 o1)) (X':=some (α r s)) (fa:=(by first|exact .inl rfl|exact .inr (fun a E=>by have F:=Option.some.inj E;rw[←F];exact Nat.le_trans L.size f))) (fb:=(by first|exact .inl rfl|exact .inr (fun a E=>by have F:=Option.some.inj E;rw[←F];exact Nat.le_trans L.size f))) (A:=some (α P 0)) (A':=some (α r s)) (c:=m) (c':=c') k.o j.o T1.o T2.o bF);rw[List.length_set]at aq;have kf:=blk_set (blk_set Q 0 (.slice (some (α P 0)) l.length m)) 1 (.slice (some (α r s)) u.length c');have t4:(((w6.setCell (α P (n.toNat*2+1)) (ι x)).setCell (α (w.heap.size+1) 0) (.slice (some (α P 0)) l.length m)).setCell (α (w.heap.size+1) 1) (.slice (some (α r s)) u.length c')).cell? (α (w.heap.size+1) 0)=some (.slice (some (α P 0)) l.length m):=by rw[kf.cell];rfl
   have t5:(((w6.setCell (α P (n.toNat*2+1)) (ι x)).setCell (α (w.heap.size+1) 0) (.slice (some (α P 0)) l.length m)).setCell (α (w.heap.size+1) 1) (.slice (some (α r s)) u.length c')).cell? (α (w.heap.size+1) 1)=some (.slice (some (α r s)) u.length c'):=by rw[kf.cell];rfl
   clear kf bF Q ab Z ap f0 f1 r0 r1 y0 y1
   go_wp2_with fail
   exact bodyPost_ret (v:= .tuple #[.agg #[.slice (some (α P 0)) l.length m,.slice (some (α r s)) u.length c'],ι 0]) (by simp[results,Tryz.results44,go_sem,t4,t5]) rfl aq.o
 ·have ar:inR l.length n=false:=by simpa using hin
  have j:Hid (limF l n x=18):=by show _=_;rw[limF,ar];rfl
  have k:Hid (limL l n x=l):=by show _=_;rw[limL,j.o];rfl
  have au:n<0∨(l.length:Int)≤n:=by
   by_cases h0:n<0
   ·exact .inl h0
   ·right;by_cases h1:n<l.length
    ·exact absurd (inR_t (by omega) h1) hin
    ·omega
  clear hin ar;by_cases h0:n<0
  ·clear au
   go_enter Tryz.func44,Tryz.ntmps44
   go_wp2_with fail
   exact bodyPost_ret (v:= .tuple #[.agg #[.slice A l.length c,.slice A' u.length c'],ι 18]) (by simp[results,Tryz.results44,go_sem,t4,t5]) rfl (madeLim_mkR (fa:=(by first|exact .inl rfl|exact .inr (fun a E=>by have F:=Option.some.inj E;rw[←F];exact Nat.le_trans L.size f))) (fb:=(by first|exact .inl rfl|exact .inr (fun a E=>by have F:=Option.some.inj E;rw[←F];exact Nat.le_trans L.size f))) k.o j.o T1.o T2.o T3)
  ·have h1:(l.length:Int)≤n:=by omega
   have h2:0≤n:=by omega
   clear au
   go_enter Tryz.func44,Tryz.ntmps44
   go_wp2_with fail
   exact bodyPost_ret (v:= .tuple #[.agg #[.slice A l.length c,.slice A' u.length c'],ι 18]) (by simp[results,Tryz.results44,go_sem,t4,t5]) rfl (madeLim_mkR (fa:=(by first|exact .inl rfl|exact .inr (fun a E=>by have F:=Option.some.inj E;rw[←F];exact Nat.le_trans L.size f))) (fb:=(by first|exact .inl rfl|exact .inr (fun a E=>by have F:=Option.some.inj E;rw[←F];exact Nat.le_trans L.size f))) k.o j.o T1.o T2.o T3)
end Rfs
end Go.Proofs.YtcccdikhfgpamaaGreat
