/- Texts side by side. -/
import Derived.Test.YtaeddnjjeholgaaGreatUgac
set_option linter.unusedVariables false
set_option linter.unusedSimpArgs false
set_option maxRecDepth 100000
set_option maxHeartbeats 16000000
namespace Go.Proofs.YtaeddnjjeholgaaGreat
open Kap Go.ChangeShapes Go.WideShapes Go.ChangeAt Go.RowKit Mem Tre Ref3 Law3 Fix3 Crd CrdB CrdC Cpl Own
namespace Res
open Abv
structure GoodSt(l:List (Int×Int))(u:List Int):Prop where
 okt:Okt l
 one:1≤l.length
 few:l.length≤32
 len:u.length=l.length
 uok:UOk u
variable {l:List (Int×Int)} {u:List Int} {c c' c1 c2:Nat} {A A' A1 A2:Option Addr} {x y:Value} {W w:World}
theorem GoodSt.right(h:GoodSt l u):rightF l u=true:=okt_right h.okt h.one h.few h.len h.uok
theorem GoodSt.wf(h:GoodSt l u):WfN l:=okt_wf h.okt h.few
theorem GoodSt.wfi(h:GoodSt l u):WfI u:=uok_wf h.uok
structure Owned(w W:World)(A1 A2:Option Addr)(c1 c2:Nat)(l:List (Int×Int))(u:List Int):Prop where
 o1:W.ownsRow (w.heap.size+2) 102 2 (.slice A1 l.length c1) l.length (nds l)
 o2:W.ownsRow (w.heap.size+2) 2 1 (.slice A2 u.length c2) u.length (ints u)
 k3:Blk W w.heap.size 194 #[.slice A1 l.length c1,.slice A2 u.length c2]
 k6:Blk W (w.heap.size+1) 194 #[.slice none 0 0,.slice none 0 0]
 bl:Below w.heap.size w W
theorem Owned.below{W':World}(h:Owned w W A1 A2 c1 c2 l u)(hb:Below W.heap.size W W'):Owned w W' A1 A2 c1 c2 l u:=
 ⟨own_below h.o1 hb,own_below h.o2 hb,Blk.below' h.k3 hb,Blk.below' h.k6 hb,below_step h.bl hb⟩
theorem owned_mk{w1:World}{A A':Option Addr}{c c':Nat}(k3:Blk w1 w.heap.size 194 #[x,y])(k6:Blk w1 (w.heap.size+1) 194 #[.slice none 0 0,.slice none 0 0])(bl:Below w.heap.size w w1)
  {base:Nat}(hbase:w.heap.size+2≤base)(o1:OwnN base w1 A1 c1 l)(o2:OwnI base w1 A2 c2 u):
  Owned w ((w1.setCell ⟨w.heap.size,0,none⟩ (.slice A1 l.length c1)).setCell ⟨w.heap.size,1,none⟩ (.slice A2 u.length c2)) A1 A2 c1 c2 l u:=
 ⟨ownsRow_setCell_below (ownsRow_setCell_below (own_mono o1 hbase) (by simp) _) (by simp) _,ownsRow_setCell_below (ownsRow_setCell_below (own_mono o2 hbase) (by simp) _) (by simp) _,
  blk_set (blk_set k3 0 _) 1 _,blk_far (blk_far k6 (by simp) _) (by simp) _,(bl.setCell (by simp) _).setCell (by simp) _⟩
structure Pre(w W:World)(x y:Value)(A1 A2:Option Addr)(c1 c2:Nat)(l:List (Int×Int))(u:List Int):Prop where
 o1:W.ownsRow (w.heap.size+2) 102 2 (.slice A1 l.length c1) l.length (nds l)
 o2:W.ownsRow (w.heap.size+2) 2 1 (.slice A2 u.length c2) u.length (ints u)
 k3:Blk W w.heap.size 194 #[x,y]
 k6:Blk W (w.heap.size+1) 194 #[.slice none 0 0,.slice none 0 0]
 bl:Below w.heap.size w W
theorem Pre.store(h:Pre w W x y A1 A2 c1 c2 l u):
  Owned w ((W.setCell ⟨w.heap.size,0,none⟩ (.slice A1 l.length c1)).setCell ⟨w.heap.size,1,none⟩ (.slice A2 u.length c2)) A1 A2 c1 c2 l u:=
 owned_mk (A:=none) (A':=none) (c:=0) (c':=0) h.k3 h.k6 h.bl τ h.o1 h.o2
def Start(w:World)(x y:Value)(l:List (Int×Int))(u:List Int)(e:Ending)(W:World):Prop:=
 ∃A1 c1 A2 c2,e= .returned (.agg #[.slice A1 l.length c1,.slice A2 u.length c2])∧Pre w W x y A1 A2 c1 c2 l u
theorem start_own(A A':Option Addr)(c c':Nat)(l:List (Int×Int))(u:List Int)(w:World)(hl:Hid (Nds w w.heap.size A l))(hu:Hid (Ris w w.heap.size A' u))(h1:(l.length:Int)≤32)(h2:(u.length:Int)≤32):
  Calls Tryz.prog 162 #[.agg #[.slice A l.length c,.slice A' u.length c']] ((w.alloc (.cells #[.slice A l.length c,.slice A' u.length c'] 194)).alloc (.cells #[.slice none 0 0,.slice none 0 0] 194)) (Start w (.slice A l.length c) (.slice A' u.length c') l u):=by
 have b0:=γ w (.cells (vS A l.length c A' u.length c') 194) (.cells (vS none 0 0 none 0 0) 194);have k1:=(Blk.fresh w 194 (vS A l.length c A' u.length c')).alloc (.cells (vS none 0 0 none 0 0) 194)
 have k2:Blk ((w.alloc (.cells (vS A l.length c A' u.length c') 194)).alloc (.cells (vS none 0 0 none 0 0) 194)) (w.heap.size+1) 194 (vS none 0 0 none 0 0):=by
  have:=Blk.fresh (w.alloc (.cells (vS A l.length c A' u.length c') 194)) 194 (vS none 0 0 none 0 0);simp only[World.size_alloc]at this;exact this
 refine(own_any A A' c c' l u _ (Rd.below' hl.out b0 b0.size) (Rd.below' hu.out b0 b0.size) (by omega) (by omega)).mono ?_;rintro e W ⟨A1,c1,A2,c2,rfl,o1,o2,hb⟩;exact⟨A1,c1,A2,c2,rfl,own_mono o1 (by simp),own_mono o2 (by simp),Blk.below' k1 hb,Blk.below' k2 hb,below_step b0 hb⟩
end Res
namespace Rsf
open Res
def MadeResF(l:List (Int×Int))(u:List Int)(p:Int×Int)(w:World)(e:Ending)(w':World):Prop:=
 ∃A c A' c',e= .returned (.tuple #[.agg #[.slice A l.length c,.slice A' u.length c'],.int .i64 p.1,.int .i64 p.2])∧Nds w' w'.heap.size A l∧Ris w' w'.heap.size A' u∧Below w.heap.size w w'∧
  (∀a,A=some a→w.heap.size≤a.block)∧(∀a,A'=some a→w.heap.size≤a.block)
variable {c:Nat} {A:Option Addr} {w:World}
theorem madeResF_mk{l:List (Int×Int)}{u u':List Int}{p:Int×Int}{a b:Int}{A':Option Addr}{c':Nat}{w':World}(fa: ∀a,A=some a→w.heap.size≤a.block)(fb: ∀a,A'=some a→w.heap.size≤a.block)(hu:u=u')(hp:p=(a,b))(h1:Nds w' w'.heap.size A l)(h2:Ris w' w'.heap.size A' u')(hb:Below w.heap.size w w'):
  MadeResF l u p w (.returned (.tuple #[.agg #[.slice A l.length c,.slice A' u'.length c'],.int .i64 a,.int .i64 b])) w':=by
 subst hu;subst hp;exact⟨A,c,A',c',rfl,h1,h2,hb,fa,fb⟩
theorem own_fresh{base:Nat}{e:TypeId}{size n:Nat}{xs:List Value}(h:w.ownsRow base e size (.slice A n c) n xs)(a:Addr)(ha:A=some a):base≤a.block:=by
 rcases h.2 with⟨hv,_⟩|⟨g,cap,cur,hv,hg,_⟩
 ·injection hv with hA
  rw[ha]at hA;cases hA
 ·injection hv with hA
  rw[ha]at hA;injection hA with hA
  subst hA;exact hg
theorem reserve_fresh(A A':Option Addr)(c c':Nat)(l:List (Int×Int))(u:List Int)(n x:Int)(w:World)(hl:Hid (Nds w w.heap.size A l))(hu:Hid (Ris w w.heap.size A' u))(hg:GoodSt l u)(hn:inI n)(hx0: -9223372036854775808≤x)(hx1:x≤9223372036854775807):
  Calls Tryz.prog 156 #[.agg #[.slice A l.length c,.slice A' u.length c'],.int .i64 n,.int .i64 x] w (MadeResF l (resU l u n x) (resF l u n x) w):=by
 have hr:=κ hg.right;have hw:=κ hg.wf;have hwu:=κ hg.wfi;have g1:=hg.few;have g2:(l.length:Int)≤32:=by omega
 have g3:(u.length:Int)≤32:=by rw[hg.len];omega
 have HG:=κ hg;obtain⟨P,hP⟩:=ν (pathF l 3 n);have HP:=κ hP;have p1:P.length≤3:=by rw[hP];exact path_le3 _ _ _
 clear hP hg
 go_enter Tryz.func156,Tryz.ntmps156
 go_wp2_with fail
 refine(start_own A A' c c' l u w hl hu g2 g3).mono ?_;rintro e w1 ⟨A1,c1,A2,c2,rfl,hpre⟩;have f0:=χ (hpre.k3.cell 0);have f1:=χ (hpre.k3.cell 1);have z0:=hpre.k3.thaw 0;have z1:=hpre.k3.thaw 1;have how:=κ hpre.store;have FA:Hid (∀a,A1=some a→w.heap.size≤a.block):=fun a h=>by have:=own_fresh hpre.o1 a h;omega
 have FB:Hid (∀a,A2=some a→w.heap.size≤a.block):=fun a h=>by have:=own_fresh hpre.o2 a h;omega
 clear hpre hl hu
 go_wp2_with fail
 generalize (w1.setCell (α w.heap.size 0) (.slice A1 l.length c1)).setCell (α w.heap.size 1) (.slice A2 u.length c2)=W2 at how ⊢;clear f0 f1 z0 z1;refine(pathOf_any A1 A2 c1 c2 l u n W2 (Rd.of_own how.out.o1) (Rd.of_own how.out.o2) hw hwu (by omega) (by omega) hn hr.out).mono ?_;rintro e W3 ⟨A3,c3,rfl,hr3,hf3,hb3⟩;have HF3:=κ hf3;have hob:=κ how.out.o2;have hsz2:w.heap.size+2≤W2.heap.size:=how.out.k6.lt;rw[←HP.out]at hr3 ⊢;have HR:=κ hr3;have how3:=κ (how.out.below hb3);clear how hr3 hb3 hf3;have f0:=χ (how3.out.k3.cell 0);have f1:=χ (how3.out.k3.cell 1);have r0:=χ (how3.out.k6.cell 0);have r1:=χ (how3.out.k6.cell 1);have y0:=how3.out.k6.thaw 0;have y1:=how3.out.k6.thaw 1;by_cases hp0:P.length=0
 ·have q0:((P.length:Int)==0)=true:=beq_iff_eq.2 (by omega);have hres:Hid (resF l u n x=(18,-1)):=by show _=_;rw[resF,←HP.out,if_pos hp0]
  have hresu:Hid (resU l u n x=u):=by show _=_;rw[resU,hres.out];rfl
  obtain⟨t1,t2,t3,t4,t5⟩:=fin_st how3.out.o1 how3.out.o2 how3.out.k6 (by omega) (by omega) how3.out.bl (.slice A1 l.length c1) (.slice A2 u.length c2);have T1:=κ t1;have T2:=κ t2;clear hp0 t1 t2
  go_wp2_with fail
  exact bodyPost_ret (v:= .tuple #[.agg #[.slice A1 l.length c1,.slice A2 u.length c2],ι 18,ι (-1)]) (by simp[results,Tryz.results156,go_sem,t4,t5]) rfl (madeResF_mk FA.out FB.out hresu.out hres.out T1.out T2.out t3)
 have q0:((P.length:Int)==0)=false:=beq_eq_false_iff_ne.2 (by omega);by_cases hx:x<0
 ·have hres:Hid (resF l u n x=(1,-1)):=by show _=_;rw[resF,←HP.out,if_neg hp0,if_pos hx]
  have hresu:Hid (resU l u n x=u):=by show _=_;rw[resU,hres.out];rfl
  obtain⟨t1,t2,t3,t4,t5⟩:=fin_st how3.out.o1 how3.out.o2 how3.out.k6 (by omega) (by omega) how3.out.bl (.slice A1 l.length c1) (.slice A2 u.length c2);have T1:=κ t1;have T2:=κ t2;clear hp0 t1 t2
  go_wp2_with fail
  exact bodyPost_ret (v:= .tuple #[.agg #[.slice A1 l.length c1,.slice A2 u.length c2],ι 1,ι (-1)]) (by simp[results,Tryz.results156,go_sem,t4,t5]) rfl (madeResF_mk FA.out FB.out hresu.out hres.out T1.out T2.out t3)
 have hres:Hid (resF l u n x=resS l u x P 12):=by show _=_;rw[resF,←HP.out,if_neg hp0,if_neg hx]
 have how4:=κ (how3.out.below (ψ.alloc τ (.cells #[ι 12,ι 13,ι 14] 239)));have HR4:Hid (Ris (W3.alloc (.cells #[ι 12,ι 13,ι 14] 239)) (W3.alloc (.cells #[ι 12,ι 13,ι 14] 239)).heap.size A3 P):=Rd.below' HR.out (ψ.alloc τ _) (by simp);have KR:=κ (Blk.fresh W3 239 #[ι 12,ι 13,ι 14]);have hxf:decide (x<0)=false:=by simp;omega
 have happ:Hid (Apart u.length P):=by rw[HP.out];exact apart_path HG.out.okt HG.out.len n
 clear hp0 f0 f1 r0 r1 y0 y1
 go_wp2_with fail
 generalize W3.alloc (.cells #[ι 12,ι 13,ι 14] 239)=W4 at how4 HR4 KR ⊢;have hgR:=how3.out.k6.lt;generalize W3.heap.size=gR at KR hgR ⊢;have f0:=χ (how4.out.k3.cell 0);have f1:=χ (how4.out.k3.cell 1);have ho2b:=fun k hk=>(World.ownsRow.lt hob.out k hk).2
 obtain⟨g2,rfl,hg2a,hg2b,_,hc2,hs2⟩:=own_at how4.out.o2 (by rw[HG.out.len];have:=HG.out.one;omega);obtain⟨h1,rfl,hg1a,hg1b,_,hc1,hs1⟩:=own_at2 how4.out.o1 (by have:=HG.out.one;omega);have hg2w:=ho2b g2 rfl;have HC1:=κ hc1;have HC2:=κ hc2;clear ho2b;have HS2:=κ hs2;clear hc1 hc2 hs1 hs2
 go_loopg [32] P.length (fun g s32 w'=> ∃k:Nat,k+g=P.length∧s32= ι k∧Hid (resS l u x (P.drop k) (12+k)=resS l u x P 12)∧W4=w')
 case atStart=>exact⟨0,by omega,rfl,rfl,rfl⟩
 case round=>
  obtain⟨k,hk,rfl,hall,rfl⟩:=hrel;by_cases hlt:(k:Int)<(P.length:Int)
  ·obtain⟨g,rfl⟩: ∃g,gk=g+1:=⟨gk-1,by omega⟩;have hm:=happ.out.1 k (by omega);obtain⟨m,hmm⟩:=ν (gI P k);have HM:=κ hmm;rw[←hmm]at hm;obtain⟨hm0,hm1⟩:=hm;obtain⟨b,o,rfl,hb,hcc⟩:=Ris.at (i:=k) HR4.out (by omega);have d0:=hcc k (by omega);rw[←hmm]at d0;have hml:m.toNat<l.length:=by rw[←HG.out.len];omega
   have hml':m<l.length:=by omega
   have d1:=(HC2.out m.toNat (by omega)).1;have d2:=(HC1.out m.toNat hml).2.1;have hu1:=HG.out.uok m.toNat (by omega);have hl1:=HG.out.okt m.toNat hml;obtain⟨hu1a,hu1b⟩:=hu1;obtain⟨_,_,hl1a,hl1b,_⟩:=hl1;clear hcc hmm;by_cases hfit:nC l m.toNat-gI u m.toNat<x
   ·have hres':Hid (resF l u n x=(12+(k:Int),m)):=by
     show _=_;rw[hres.out,←hall.out,resS_no (by omega) (by rw[←HM.out];exact hfit),HM.out]
    have hresu:Hid (resU l u n x=u):=by
     show _=_;rw[resU,hres'.out,if_neg (by show ¬(12+(k:Int))=0;omega)]
    obtain⟨t1,t2,t3,t4,t5⟩:=fin_st how4.out.o1 how4.out.o2 how4.out.k6 (by omega) (by omega) how4.out.bl (.slice (some ⟨h1,0,none⟩) l.length c1) (.slice (some ⟨g2,0,none⟩) u.length c2);have T1:=κ t1;have T2:=κ t2;have r0:=χ (how4.out.k6.cell 0);have r1:=χ (how4.out.k6.cell 1);have y0:=how4.out.k6.thaw 0;have y1:=how4.out.k6.thaw 1;have hk3:(k:Int)<3:=by omega
    have hk3':k<3:=by omega
    have e0:W4.cell? (α gR k)=some (ι (12+(k:Int))):=by
     rw[KR.out.cell];have:k=0∨k=1∨k=2:=by omega
     rcases this with rfl|rfl|rfl<;>rfl
    have e1:((W4.setCell (α (w.heap.size+1) 0) (.slice (some (α h1 0)) l.length c1)).setCell (α (w.heap.size+1) 1) (.slice (some (α g2 0)) u.length c2)).cell? (α gR k)=some (ι (12+(k:Int))):=by
     rw[(blk_far (blk_far KR.out (p:=⟨w.heap.size+1,0,none⟩) (by simp;omega) _) (p:=⟨w.heap.size+1,1,none⟩) (by simp;omega) _).cell,←KR.out.cell];exact e0
    clear t1 t2;by_cases hbig:gI u m.toNat+x≤9223372036854775807
    ·have i1:=inB_t (by omega) hbig;have i2:=numV_t i1
     go_wp2_with (go_at_call 179;refine(add_any _ _ _ (by omega) (by omega) (by omega) (by omega)).mono ?_;rintro e w' ⟨rfl,rfl⟩)
     go_region
     all_goals
      go_wp2_with fail
      exact bodyPost_ret (v:= .tuple #[.agg #[.slice (some (α h1 0)) l.length c1,.slice (some (α g2 0)) u.length c2],ι (12+(k:Int)),ι m]) (by simp[results,Tryz.results156,go_sem,t4,t5]) rfl (madeResF_mk FA.out FB.out hresu.out hres'.out T1.out T2.out t3.drew)
    ·have i1:inB (gI u m.toNat+x)=false:=inB_f (by omega)
     go_wp2_with (go_at_call 179;refine(add_any _ _ _ (by omega) (by omega) (by omega) (by omega)).mono ?_;rintro e w' ⟨rfl,rfl⟩)
     go_region
     all_goals
      go_wp2_with fail
      exact bodyPost_ret (v:= .tuple #[.agg #[.slice (some (α h1 0)) l.length c1,.slice (some (α g2 0)) u.length c2],ι (12+(k:Int)),ι m]) (by simp[results,Tryz.results156,go_sem,t4,t5]) rfl (madeResF_mk FA.out FB.out hresu.out hres'.out T1.out T2.out t3.drew)
   ·have i1:inB (gI u m.toNat+x)=true:=inB_t (by omega) (by omega);have i2:=numV_t i1
    have hall':Hid (resS l u x (P.drop (k+1)) (12+((k+1:Nat):Int))=resS l u x P 12):=by
     show _=_;have hgo:=resS_go (l:=l) (u:=u) (p:=P) (x:=x) (c:=12+(k:Int)) (k:=k) (by omega) (by rw[←HM.out];exact hfit);rw[←hall.out,hgo]
     congr 1
    go_wp2_with (go_at_call 179;refine(add_any _ _ _ (by omega) (by omega) (by omega) (by omega)).mono ?_;rintro e w' ⟨rfl,rfl⟩)
    go_roundg g
    case measure=>omega
    case rel=>exact⟨k+1,by omega,by go_num,hall',rfl⟩
  ·have hc0:Hid (resF l u n x=(0,-1)):=by
    show _=_;rw[hres.out,←hall.out,show k=P.length by omega];exact resS_end
   have hcu:Hid (resU l u n x=addF u P x):=by
    show _=_;rw[resU,hc0.out,if_pos rfl,←HP.out]
   have hokx:Hid (∀i,i<P.length→x≤nC l (gI P i).toNat-gI u (gI P i).toNat):=by
    have h1:(resS l u x P 12).1=0:=by rw[←hres.out,hc0.out]
    exact resS_ok P 12 (by decide) h1
   go_wp2_with fail
   go_loopg [67] P.length (fun g s67 w'=> ∃k:Nat,k+g=P.length∧s67= ι k∧Hid (Owned w w' (some (α h1 0)) (some (α g2 0)) c1 c2 l (addF u (P.take k) x))∧Hid (Ris w' w'.heap.size A3 P))
   case atStart=>exact⟨0,by omega,rfl,by rw[List.take_zero,addF_nil];exact how4,HR4⟩
   case round=>
    obtain⟨k,hk,rfl,how,HR⟩:=hrel;have f0:=χ (how.out.k3.cell 0)
    have f1:wr.cell? (α w.heap.size 1)=some (.slice (some (α g2 0)) u.length c2):=by
     have:=how.out.k3.cell 1;rw[addF_len]at this;exact this
    by_cases hlt:(k:Int)<(P.length:Int)
    ·obtain⟨g,rfl⟩: ∃g,gk=g+1:=⟨gk-1,by omega⟩;have hm:=happ.out.1 k (by omega);have hox:=hokx.out k (by omega);have hat:=addF_at (x:=x) happ.out (show k<P.length by omega);have hstep:=addF_step (x:=x) happ.out (show k<P.length by omega);obtain⟨m,hmm⟩:=ν (gI P k);rw[←hmm]at hm hox hat hstep;obtain⟨hm0,hm1⟩:=hm;obtain⟨b,o,rfl,hb,hcc⟩:=Ris.at (i:=k) HR.out (by omega);have d0:=hcc k (by omega);rw[←hmm]at d0;have hml:m.toNat<l.length:=by rw[←HG.out.len];omega
     have hml':m<u.length:=by omega
     obtain⟨g2',hg2',hg2c,hg2d,_,hc2,hs2⟩:=own_at how.out.o2 (by rw[addF_len];omega);obtain rfl:g2=g2':=by injection hg2' with e;injection e
     have hcm:=hc2 m.toNat (by rw[addF_len];omega);rw[hat]at hcm;obtain⟨d1,d2⟩:=hcm;have hsm:=hs2 m.toNat (gI u m.toNat+x) (by rw[addF_len];omega);rw[hstep]at hsm;have hu1:=HG.out.uok m.toNat (by omega);have hl1:=HG.out.okt m.toNat hml;obtain⟨hu1a,hu1b⟩:=hu1;obtain⟨_,_,hl1a,hl1b,_⟩:=hl1
     have how':Hid (Owned w (wr.setCell (α g2 m.toNat) (ι (gI u m.toNat+x))) (some (α h1 0)) (some (α g2 0)) c1 c2 l (addF u (P.take (k+1)) x)):=by
      refine⟨own_other how.out.o1 how.out.o2 (by decide) _ _,?_,?_,blk_far how.out.k6 (by simp;omega) _,how.out.bl.setCell (by simp;omega) _⟩
      ·rw[addF_len]at hsm ⊢;exact hsm
      ·have:=blk_far how.out.k3 (p:=(α g2 m.toNat)) (by simp;omega) (ι (gI u m.toNat+x));rw[addF_len]at this ⊢;exact this
     have HR':Hid (Ris (wr.setCell (α g2 m.toNat) (ι (gI u m.toNat+x))) (wr.setCell (α g2 m.toNat) (ι (gI u m.toNat+x))).heap.size (some (α b o)) P):=by
      refine HR.out.keep' (g:=g2) (by omega) ?_ _;intro a ha;have:=HF3.out a ha;omega
     clear hcc hmm hat hstep hc2 hs2 hsm
     go_wp2_with fail
     go_roundg g
     case measure=>omega
     case rel=>exact⟨k+1,by omega,by go_num,how',HR'⟩
    ·have hfin:Hid (Owned w wr (some (α h1 0)) (some (α g2 0)) c1 c2 l (addF u P x)):=by
      have:k=P.length:=by omega
      subst this;rw[addF_full]at how;exact how
     have hlen:Hid ((addF u P x).length=u.length):=addF_len _ _ _;obtain⟨t1,t2,t3,t4,t5⟩:=fin_st hfin.out.o1 hfin.out.o2 hfin.out.k6 (by omega) (by omega) hfin.out.bl (.slice (some ⟨h1,0,none⟩) l.length c1) (.slice (some ⟨g2,0,none⟩) u.length c2);have T1:=κ t1;have T2:=κ t2;have r0:=χ (hfin.out.k6.cell 0);have r1:=χ (hfin.out.k6.cell 1);have y0:=hfin.out.k6.thaw 0;have y1:=hfin.out.k6.thaw 1;have hend:=κ (madeResF_mk (c:=c1) (c':=c2) FA.out FB.out hcu.out hc0.out T1.out T2.out t3);rw[hlen.out]at hend;clear t1 t2
     go_wp2_with fail
     exact bodyPost_ret (v:= .tuple #[.agg #[.slice (some (α h1 0)) l.length c1,.slice (some (α g2 0)) u.length c2],ι 0,ι (-1)]) (by simp[results,Tryz.results156,go_sem,t4,t5]) rfl hend.out
end Rsf
end Go.Proofs.YtaeddnjjeholgaaGreat
