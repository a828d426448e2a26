/- The law, walked in each of its turns: it returns true, and its arguments read as they did. No condition of ours. Texts side by side. -/
import Derived.Test.YtcccdikhfgpamaaGreatUhbr
import Derived.Test.YtcccdikhfgpamaaGreatUhby
import Derived.Test.YtcccdikhfgpamaaGreatUhca
set_option linter.unusedVariables false
set_option linter.unusedSimpArgs false
set_option maxRecDepth 100000
set_option maxHeartbeats 16000000
namespace Go.Proofs.YtcccdikhfgpamaaGreat
open Kap Abv Go.ChangeShapes Go.WideShapes Go.ChangeAt Go.RowKit Mem Tre Ref3 Law3 Fix3 Cfg Crd CrdB CrdC St7 Rul6 Fcf Fown Rul7 Tl5 Gdc Bkp Stk Apt Wpl Hpa Hpl Hqp Hri
namespace Htd
open Go.Lib Bks Hws Hte
open Hck (WfO WfE chkF MadeI)
open Hcc (hchk_any)
open Mdg (bgnP)
open Hcq (hque_any)
theorem rd_new(w:World)(te:TypeId)(xs:List Value):Rd (w.alloc (.cells xs.toArray te)) (w.alloc (.cells xs.toArray te)).heap.size (some ⟨w.heap.size,0,none⟩) xs:=
 .inr ⟨w.heap.size,0,rfl,by simp,fun i v a=>by rw[Nat.zero_add,(Blk.fresh w te xs.toArray).cell i];simpa using a⟩
theorem rd_at{w:World}{B b:Nat}{xs:List Value}(g:Nat)(h:Rd w B (some ⟨b,0,none⟩) xs)(e:g=b):Rd w B (some ⟨g,0,none⟩) xs:=e ▸ h
theorem wf_k:WfO kE:=⟨⟨by decide,by decide⟩,⟨by decide,by decide⟩,⟨by decide,by decide⟩,by decide,by decide,⟨by decide,by decide⟩,⟨by decide,by decide⟩⟩
theorem wf_o:WfO oE:=⟨⟨by decide,by decide⟩,⟨by decide,by decide⟩,⟨by decide,by decide⟩,by decide,by decide,⟨by decide,by decide⟩,⟨by decide,by decide⟩⟩
theorem wf_p:WfO pE:=⟨⟨by decide,by decide⟩,⟨by decide,by decide⟩,⟨by decide,by decide⟩,by decide,by decide,⟨by decide,by decide⟩,⟨by decide,by decide⟩⟩
theorem two{p:Nat→Prop}(h0:p 0)(h1:p 1): ∀i,i<2→p i
 |0,_=>h0
 |1,_=>h1
 |i+2,h=>absurd h (by omega)
theorem told10_any(w:World):Calls Tryz.prog 8 #[] w (MadeB true w):=by
 have q1:1+modF 0 3=1:=by decide+kernel
 have q2:modF 0 4=0:=by decide+kernel
 have q3:1+modF 0 6=1:=by decide+kernel
 have q4:1+modF 0 8=1:=by decide+kernel
 have FX:=fun W=>fix5_any 0 0 0 0 none none none 0 0 0 [] [] [] W Rd.nil Rd.nil Rd.nil (fun i hi=>by simp at hi) (fun i hi=>by simp at hi) (fun i hi=>by simp at hi) (by decide) (by decide) (by decide)
 rw[eA,eN,eS,q1,q2,q3,q4]at FX;clear q1 q2 q3 q4;have TX:=fun W A B C c d f h1 h2 h3=>to5_any 1 0 1 1 A B C c d f ndE acE syE W h1 h2 h3 wnE (by decide) (by decide) (by decide)
 unfold MadeCf at FX TX;rw[show ndE.length=1 from rfl,show acE.length=1 from rfl,show syE.length=1 from rfl]at FX TX
 go_enter Tryz.func8,Tryz.ntmps8
 go_wp2_with fail
 refine(FX _).mono ?_;rintro e w1 ⟨A1,B1,C1,c1,d1,f1,rfl,ao,ap,aq,ar⟩;have b1:=κ ar;clear ar FX
 go_wp2_with fail
 refine(TX _ _ _ _ _ _ _ ao ap aq).mono ?_;rintro e w2 ⟨v,x,h,y,z,E,rfl,au,av,aw,ax⟩;have b2:=κ (CrdB.below_step b1.o ax);clear b1 ao ap aq ax TX;have U2:=β w2 (.cells (vC 1 0 1 1 v 1 y x 1 z h 1 E) 43);have v2:=κ (Blk.fresh w2 43 (vC 1 0 1 1 v 1 y x 1 z h 1 E));have b3:=κ (CrdB.below_step b2.o U2);have N3:=θ au U2;have R3:=η av U2;have S3:Hid (Smb (w2.alloc (.cells (vC 1 0 1 1 v 1 y x 1 z h 1 E) 43)) (w2.alloc (.cells (vC 1 0 1 1 v 1 y x 1 z h 1 E) 43)).heap.size h syE):=Rd.below' aw U2 U2.size;clear au av aw U2 b2
 go_upto_region 2 with fail
 generalize w2.alloc (.cells (vC 1 0 1 1 v 1 y x 1 z h 1 E) 43)=w3 at b3 v2 N3 R3 S3 ⊢;generalize w2.heap.size=gK at v2 ⊢
 go_upto_region 3 with(refine wpList_st _ _ _ rfl rfl rfl rfl (st21 _ kE) ?_)
 have Z:=β w3 (.cells (hA kE) 81);have KK:=κ (Blk.fresh w3 81 (hA kE));have b4:=κ (bst b3.o Z);have v4:=κ (v2.o.below' Z);have N4:=θ N3.o Z;have R4:=η R3.o Z;have S4:Hid (Smb (w3.alloc (.cells (hA kE) 81)) (w3.alloc (.cells (hA kE) 81)).heap.size h syE):=κ (Rd.below' S3.o Z Z.size);clear Z b3 v2 N3 R3 S3;generalize w3.alloc (.cells (hA kE) 81)=w4 at b4 v4 N4 R4 S4 KK ⊢;generalize w3.heap.size=gk at KK ⊢
 go_wp2_with fail
 refine(Rul3.order_any 0 0 false 10 2 0 0 _).mono ?_;rintro e Q ⟨rfl,k⟩;have b5:=κ (bst b4.o k);have v5:=κ (v4.o.below' k);have N5:=θ N4.o k;have R5:=η R4.o k;have S5:Hid (Smb Q Q.heap.size h syE):=κ (Rd.below' S4.o k k.size);have ay:=κ (KK.o.below' k);clear k b4 v4 N4 R4 S4 KK
 go_upto_region 4 with(refine wpList_st _ _ _ rfl rfl rfl rfl (st21 _ oE) ?_)
 have R:=β Q (.cells (hA oE) 81);have KO:=κ (Blk.fresh Q 81 (hA oE));have b6:=κ (bst b5.o R);have v6:=κ (v5.o.below' R);have N6:=θ N5.o R;have R6:=η R5.o R;have S6:Hid (Smb (Q.alloc (.cells (hA oE) 81)) (Q.alloc (.cells (hA oE) 81)).heap.size h syE):=κ (Rd.below' S5.o R R.size);have aa:=κ (ay.o.below' R);clear R b5 v5 N5 R5 S5 ay;generalize Q.alloc (.cells (hA oE) 81)=w6 at b6 v6 N6 R6 S6 aa KO ⊢;generalize Q.heap.size=go at KO ⊢;have lo:=ld21 (h21_blk KO.o)
 go_upto_region 5 with(first|(refine wpList_ld _ _ rfl rfl rfl lo ?_)|(refine wpList_st _ _ _ rfl rfl rfl rfl (st21 _ oE) ?_))
 clear lo;obtain⟨gp,ab⟩:=ν w6.heap.size;have UP:=κ (β w6 (.cells (hA oE) 81));have KP:=κ (ζ ab (Blk.fresh w6 81 (hA oE)));have az:Hid (w6.heap.size≤gp):=κ (by omega);simp only[←ab];clear ab;generalize w6.alloc (.cells (hA oE) 81)=w7 at UP KP ⊢;have fz:=KP.o.thaw 2;have fc:=χ (KP.o.cell 2)
 go_upto_region 6 with fail
 have F:=UP.o.setCell (p:=(α gp 2)) az.o (ι 1);have ac:Hid (Blk (w7.setCell (α gp 2) (ι 1)) gp 81 (hA pE)):=κ (blk_st KP.o 2 (ι 1));have b8:=κ (bst b6.o F);have v8:=κ (v6.o.below' F);have N8:=θ N6.o F;have R8:=η R6.o F;have S8:Hid (Smb (w7.setCell (α gp 2) (ι 1)) (w7.setCell (α gp 2) (ι 1)).heap.size h syE):=κ (Rd.below' S6.o F F.size);have G:=κ (aa.o.below' F);have ad:=κ (KO.o.below' F);clear UP KP fz fc az b6 v6 N6 R6 S6 aa KO F;generalize w7.setCell (α gp 2) (ι 1)=w8 at b8 v8 N8 R8 S8 G ad ac ⊢;obtain⟨H,I,J,K,L,O,P⟩:=c7_of v8.o;have l:=ld21 (h21_blk G.o);have m:=ld21 (h21_blk ad.o);have b:=β w8 (.cells (hrow [kE,oE]).toArray 81);have j:=hchk_any 2 [kE,oE] 1 0 1 1 v x h (some (α w8.heap.size 0)) 1 1 1 y z E 2 ndE acE syE (w8.alloc (.cells (hrow [kE,oE]).toArray 81)) rfl rfl rfl (θ N8.o b) (η R8.o b) (κ (Rd.below' S8.o b b.size)) (κ wnE) (by decide) (by decide) (by decide) (κ cfE) (κ vE) (κ (rd_new w8 81 (hrow [kE,oE]))) (κ (two (by decide) (by decide))) (κ (two (wf_k) (wf_o))) (by decide);rw[show bgnP ((1:Nat):Int) 0 1 1 ndE acE syE=P0 from rfl,t1]at j
 go_wp2_with (first|(refine wpList_ld _ _ rfl rfl rfl l ?_)|(refine wpList_ld _ _ rfl rfl rfl m ?_))
 refine j.mono ?_;rintro e w9 ⟨rfl,aA⟩;have a:=bst b aA;have b9:=κ (bst b8.o a);have v9:=κ (v8.o.below' a);have N9:=θ N8.o a;have R9:=η R8.o a;have S9:Hid (Smb w9 w9.heap.size h syE):=κ (Rd.below' S8.o a a.size);have ae:=κ (G.o.below' a);have af:=κ (ac.o.below' a);clear j b a aA H I J K L O P l m b8 v8 N8 R8 S8 G ac ad;obtain⟨H,I,J,K,L,O,P⟩:=c7_of v9.o;have l:=ld21 (h21_blk ae.o);have m:=ld21 (h21_blk af.o);have b:=β w9 (.cells (hrow [kE,pE]).toArray 81);have j:=hchk_any 2 [kE,pE] 1 0 1 1 v x h (some (α w9.heap.size 0)) 1 1 1 y z E 2 ndE acE syE (w9.alloc (.cells (hrow [kE,pE]).toArray 81)) rfl rfl rfl (θ N9.o b) (η R9.o b) (κ (Rd.below' S9.o b b.size)) (κ wnE) (by decide) (by decide) (by decide) (κ cfE) (κ vE) (κ (rd_new w9 81 (hrow [kE,pE]))) (κ (two (by decide) (by decide))) (κ (two (wf_k) (wf_p))) (by decide);rw[show bgnP ((1:Nat):Int) 0 1 1 ndE acE syE=P0 from rfl,t2]at j
 go_wp2_with (first|(refine wpList_lg _ _ rfl rfl rfl l ?_)|(refine wpList_lg _ _ rfl rfl rfl m ?_))
 refine j.mono ?_;rintro e n ⟨rfl,S⟩;have a:=bst b S;have aB:=κ (bst b9.o a);have ag:=κ (v9.o.below' a);have ah:=θ N9.o a;have ai:=η R9.o a;have aj:Hid (Smb n n.heap.size h syE):=κ (Rd.below' S9.o a a.size);have q:=κ (ae.o.below' a);have r:=κ (af.o.below' a);clear j b a S H I J K L O P l m b9 v9 N9 R9 S9 ae af;obtain⟨H,I,J,K,L,O,P⟩:=c7_of ag.o;have l:=ld21 (h21_blk q.o);have m:=ld21 (h21_blk r.o);have b:=β n (.cells (hrow [kE,pE]).toArray 81);have j:=hchk_any 1 [kE,pE] 1 0 1 1 v x h (some (α n.heap.size 0)) 1 1 1 y z E 2 ndE acE syE (n.alloc (.cells (hrow [kE,pE]).toArray 81)) rfl rfl rfl (θ ah.o b) (η ai.o b) (κ (Rd.below' aj.o b b.size)) (κ wnE) (by decide) (by decide) (by decide) (κ cfE) (κ vE) (κ (rd_new n 81 (hrow [kE,pE]))) (κ (two (by decide) (by decide))) (κ (two (wf_k) (wf_p))) (by decide);rw[show bgnP ((1:Nat):Int) 0 1 1 ndE acE syE=P0 from rfl,t3]at j
 go_wp2_with (first|(refine wpList_lg _ _ rfl rfl rfl l ?_)|(refine wpList_lg _ _ rfl rfl rfl m ?_))
 refine j.mono ?_;rintro e g ⟨rfl,T⟩;have a:=bst b T;have aC:=κ (bst aB.o a);have ak:=κ (ag.o.below' a);have al:=θ ah.o a;have am:=η ai.o a;have an:Hid (Smb g g.heap.size h syE):=κ (Rd.below' aj.o a a.size);have s:=κ (q.o.below' a);have t:=κ (r.o.below' a);clear j b a T H I J K L O P l m aB ag ah ai aj q r;obtain⟨H,I,J,K,L,O,P⟩:=c7_of ak.o;have l:=ld21 (h21_blk s.o);have m:=ld21 (h21_blk t.o);have b:Below g.heap.size g ((g.alloc (.cells (hrow [kE,pE]).toArray 81)).alloc (.cells (nds [(0,0)]).toArray 93)):=(β g (.cells (hrow [kE,pE]).toArray 81)).alloc (by simp) _;have UB:=β (g.alloc (.cells (hrow [kE,pE]).toArray 81)) (.cells (nds [(0,0)]).toArray 93);have j:=hque_any 2 [kE,pE] [(0,0)] 1 0 1 1 v x h (some (α g.heap.size 0)) (some (α (g.heap.size+1) 0)) 1 1 1 y z E 2 1 ndE acE syE ((g.alloc (.cells (hrow [kE,pE]).toArray 81)).alloc (.cells (nds [(0,0)]).toArray 93)) rfl rfl rfl (θ al.o b) (η am.o b) (κ (Rd.below' an.o b b.size)) (κ wnE) (by decide) (by decide) (by decide) (κ cfE) (κ vE) (κ (Rd.below' (rd_new g 81 (hrow [kE,pE])) UB UB.size)) (κ (two (by decide) (by decide))) (κ (two (wf_k) (wf_p))) (by decide) (κ (rd_at (g.heap.size+1) (rd_new (g.alloc (.cells (hrow [kE,pE]).toArray 81)) 93 (nds [(0,0)])) (by simp))) (by decide);rw[show bgnP ((1:Nat):Int) 0 1 1 ndE acE syE=P0 from rfl,t4]at j
 go_wp2_with (first|(refine wpList_lg _ _ rfl rfl rfl l ?_)|(refine wpList_lg _ _ rfl rfl rfl m ?_))
 refine j.mono ?_;rintro e o ⟨rfl,U⟩;have a:=bst b U;have aD:=κ (bst aC.o a);have aE:=κ (ak.o.below' a);have aF:=θ al.o a;have aG:=η am.o a;have aH:Hid (Smb o o.heap.size h syE):=κ (Rd.below' an.o a a.size);have V:=κ (s.o.below' a);have X:=κ (t.o.below' a);clear j b UB a U H I J K L O P l m aC ak al am an s t;obtain⟨H,I,J,K,L,O,P⟩:=c7_of aE.o;have l:=ld21 (h21_blk V.o);have m:=ld21 (h21_blk X.o);have b:=β o (.cells (hrow [kE,pE]).toArray 81);have j:=hque_any 2 [kE,pE] [] 1 0 1 1 v x h (some (α o.heap.size 0)) none 1 1 1 y z E 2 0 ndE acE syE (o.alloc (.cells (hrow [kE,pE]).toArray 81)) rfl rfl rfl (θ aF.o b) (η aG.o b) (κ (Rd.below' aH.o b b.size)) (κ wnE) (by decide) (by decide) (by decide) (κ cfE) (κ vE) (κ (rd_new o 81 (hrow [kE,pE]))) (κ (two (by decide) (by decide))) (κ (two (wf_k) (wf_p))) (by decide) (κ (.inl rfl)) (by decide);rw[show bgnP ((1:Nat):Int) 0 1 1 ndE acE syE=P0 from rfl,t5]at j
 go_wp2_with (first|(refine wpList_lg _ _ rfl rfl rfl l ?_)|(refine wpList_lg _ _ rfl rfl rfl m ?_))
 refine j.mono ?_;rintro e aJ ⟨rfl,Y⟩;have a:=bst b Y;have aI:=κ (bst aD.o a);clear j b a Y H I J K L O P l m aD aE aF aG aH V X
 go_wp2_with fail
 go_ret;exact⟨rfl,aI.o⟩
end Htd
namespace histChecks
open Opn Bnd Flo Rr4 Cfr Rul5 Ocs Lac Lat Lax Go.Joins Go.Deep
open Hck (WfE chkF rchk_any)
open Hcc (hchk_any)
open Hrq (rque_any)
open Hcq (hque_any)
open Hrr (rright_any)
open Hen (entries_any)
open Hof (MadeOf)
open Hou (outs_any)
open Heo (Fes rows_of open_ents)
open Htd (told10_any)
open Mdg (bgnP)
open Mdq (Vp Vp_begin)
theorem nds_app(x y:List (Int×Int)):nds (x++y)=nds x++nds y:=by simp[nds]
theorem own:ownKnob Tryz.prog.godebug=none:=by kernel_rfl
theorem laidOut:laidOutB Tryz.prog=true:=by kernel_rfl
theorem inner(sh0 wi0 ra0 ta0:Int)(A B C:Option Addr)(N M K c d f:Nat)(nd:List (Int×Int))(ac:List Int)(sy:List (Int×Int×Int×Nat))(Al Ar:Option Addr)(nL cL nO cO:Nat)(out0:List (Int×Int))(w:World)
  (hN:Hid (N=nd.length))(hM:Hid (M=ac.length))(hK:Hid (K=sy.length))(hn9:(nd.length:Int)≤4611686018427387904)(ha9:(ac.length:Int)≤4611686018427387904)(hk9:(sy.length:Int)≤4398046511104)
  (hl:Hid (Nds w w.heap.size A nd))(hu:Hid (Ris w w.heap.size B ac))(hs:Hid (Btb w w.heap.size C sy))(hw:Hid (WfN nd))(hwa:Hid (WfI ac))(hws:Hid (WfS sy))(hfr:Hid (Fes w Al nL))(hcL:nL≤cL)(hO:Hid (nO=out0.length))(ho:Hid (Nds w w.heap.size Ar out0))(hcO:nO≤cO):
  Calls Tryz.prog 3 #[.agg #[.int .i64 sh0,.int .i64 wi0,.int .i64 ra0,.int .i64 ta0,.slice A N c,.slice B M d,.slice C K f],.slice Al nL cL,.slice Ar nO cO] w (MadeB true w):=by
 have X:=κ (β w (.cells (vC sh0 wi0 ra0 ta0 A N c B M d C K f) 26));have K0:=κ (Blk.fresh w 26 (vC sh0 wi0 ra0 ta0 A N c B M d C K f))
 go_enter Tryz.func3,Tryz.ntmps3
 go_upto_region 1 with fail
 generalize w.alloc (.cells (vC sh0 wi0 ra0 ta0 A N c B M d C K f) 26)=w0 at X K0 ⊢;generalize w.heap.size=g0 at K0 ⊢;obtain⟨k0,k1,k2,k3,k4,k5,k6⟩:=c7_of K0.o
 go_wp2_with fail
 refine(ref_any sh0 wi0 ra0 ta0 A B C c d f N M K nd ac sy _ hN hM hK (Rd.below' hl.o X.o X.o.size) (Rd.below' hu.o X.o X.o.size) (Rd.below' hs.o X.o X.o.size) (by rw[hK.out];exact hk9)).mono ?_;rintro e w1 ⟨A1,B1,C1,c1,d1,f1,rfl,an,ao,ap,aq⟩;have U1:=κ (CrdB.below_step X.o aq);have HN:=κ an;have HU:=κ ao;have HS:=κ ap;clear k0 k1 k2 k3 k4 k5 k6 K0 X an ao ap aq
 go_wp2_with fail
 refine(fixd_any sh0 wi0 ra0 ta0 A1 B1 C1 c1 d1 f1 nd ac sy _ HN HU HS hw hwa hws hn9 ha9 (by omega)).mono ?_;rintro e w2 ⟨sh,G,H,I,r,s,l,a,ar,Y,Z,J,c2,d2,f2,rfl,au,av,aw,ax⟩;obtain⟨O,aa⟩:=ν r.length;obtain⟨P,ab⟩:=ν s.length;obtain⟨Q,ad⟩:=ν l.length;have L1:=κ aa;have L2:=κ ab;have L3:=κ ad;have l1:O≤10:=by rw[aa];exact a.n2
 have l2:P≤5:=by rw[ab];exact a.a2
 have l3:Q≤3:=by rw[ad];exact a.s2
 obtain⟨t,a3⟩: ∃t:Nat,sh=t:=⟨sh.toNat,by have:=a.h1;omega⟩;have bh:t≤3:=by have:=a.h2;omega
 have R:=κ a.cfg;have V0:=κ (Vp_begin a.cfg ar a.n1 (by have:=a.n2;omega) a.ws a.wa);have L:=κ a.wn;subst a3;simp only[←aa,←ab,←ad];have V2:=β w2 (.cells (vC (t:Int) G H I Y O c2 Z P d2 J Q f2) 31);have K2:=κ (Blk.fresh w2 31 (vC (t:Int) G H I Y O c2 Z P d2 J Q f2));have U2:=κ (CrdB.below_step (CrdB.below_step U1.o ax) V2);have N2:=θ au V2;have R2:=η av V2;have S2:Hid (Smb (w2.alloc (.cells (vC (t:Int) G H I Y O c2 Z P d2 J Q f2) 31)) (w2.alloc (.cells (vC (t:Int) G H I Y O c2 Z P d2 J Q f2) 31)).heap.size J l):=Rd.below' aw V2 V2.size;clear HN HU HS U1 ax au av aw V2 aa ab ad a ar
 go_upto_region 2 with fail
 generalize w2.alloc (.cells (vC (t:Int) G H I Y O c2 Z P d2 J Q f2) 31)=w3 at K2 U2 N2 R2 S2 ⊢;generalize w2.heap.size=gC at K2 ⊢;obtain⟨m,hm⟩:=ν (min nL 40);obtain⟨k,hk⟩:=ν (min nO 60);have m1:min (nL:Int) 40=(m:Int):=by omega
 have m2:min (nO:Int) 60=(k:Int):=by omega
 have m3:m≤cL:=by omega
 have m4:k≤cO:=by omega
 have bi:m≤40:=by omega
 have bj:k≤60:=by omega
 obtain⟨E,hE,ay,az,aA⟩:=rows_of hfr.o m (by omega);obtain⟨y,S⟩:=ν (out0.take k);have aB:y.length=k:=by rw[S,List.length_take,←hO.o];omega
 have aC:Rd w w.heap.size Ar (nds y):=by
  rw[S];rcases ho.o with h|⟨b,o,hA,g,hc⟩
  ·left;have h1:=congrArg List.length h;rw[nds_len]at h1;have:out0=[]:=List.length_eq_zero_iff.1 (by simp at h1;omega);rw[this];simp[nds]
  ·refine .inr ⟨b,o,hA,g,fun i v hi=>hc i v ?_⟩;have e:nds out0=nds (out0.take k)++nds (out0.drop k):=by rw[←nds_app,List.take_append_drop]
   rw[e,List.getElem?_append_left (List.getElem?_eq_some_iff.1 hi).1];exact hi
 have HE:=κ hE;have aD:=κ aB;have RL:=κ ay;have RO:Hid (Nds w w.heap.size Ar y):=κ aC;have U:=κ az;have ae:=κ aA;clear hE aB ay aC az aA S
 go_cut [1,2] (fun s1 s2 wx=>s1= .slice Al m cL∧s2= .slice Ar k cO∧Hid (Below w3.heap.size w3 wx))
 case first=>
  go_quiet (fail)
  rename Nat=>nq
  go_wp2_with fail
  go_meet;exact⟨by first|rfl|rw[hm],by first|rfl|rw[hk],κ (Below.drewN' ψ _)⟩
 case rest=>
  obtain⟨rfl,rfl,UX⟩:=hcut
  rename World=>w4
  clear hm hk m1 m2 m3 m4;have hE:=HE.o;subst hE;have a4:=aD.o;subst a4;have U4:=κ (bst U2.o UX.o);have K4:=κ (K2.o.below' UX.o);have N4:=θ N2.o UX.o;have R4:=η R2.o UX.o;have S4:Hid (Smb w4 w4.heap.size J l):=κ (Rd.below' S2.o UX.o UX.o.size);clear U2 K2 N2 R2 S2 UX HE aD
  go_wp2_with fail
  refine(entries_any E Al cL w4 (κ (Rd.below' RL.o U4.o U4.o.size)) (by omega)).mono ?_;rintro e n ⟨Ax,cx,rfl,aE,z⟩;have U5:=κ (bst U4.o z);have K5:=κ (K4.o.below' z);have N5:=θ N4.o z;have R5:=η R4.o z;have S5:Hid (Smb n n.heap.size J l):=κ (Rd.below' S4.o z z.size);have RX:Hid (Rd n n.heap.size Ax (hrow E)):=κ (Rd.of_own aE);have RE:Hid (Rd n n.heap.size Al (hrow E)):=κ (Rd.below' RL.o U5.o U5.o.size);have RQ:=θ RO.o U5.o;clear U4 K4 N4 R4 S4 aE z RL RO
  go_upto_region 4 with fail
  let T:World→Prop:=fun w'=>w'.cell? (α gC 0)=some (ι (t:Int))∧w'.cell? (α gC 1)=some (ι G)∧w'.cell? (α gC 2)=some (ι H)∧w'.cell? (α gC 3)=some (ι I)∧w'.cell? (α gC 4)=some (.slice Y O c2)∧w'.cell? (α gC 5)=some (.slice Z P d2)∧w'.cell? (α gC 6)=some (.slice J Q f2)
  have V:Hid (∀W,Below n.heap.size n W→T W):=κ (fun W g=>c7_of (K5.o.below' g));have NF:=fun W (g:Below n.heap.size n W)=>θ N5.o g
  have RF:=fun W (g:Below n.heap.size n W)=>η R5.o g
  have SF:=fun W (g:Below n.heap.size n W)=>κ (show Smb W W.heap.size J l from Rd.below' S5.o g g.size)
  have XF:=fun W (g:Below n.heap.size n W)=>κ (show Rd W W.heap.size Ax (hrow E) from Rd.below' RX.o g g.size)
  have EF:=fun W (g:Below n.heap.size n W)=>κ (show Rd W W.heap.size Al (hrow E) from Rd.below' RE.o g g.size)
  have OF:=fun W (g:Below n.heap.size n W)=>θ RQ.o g
  have af:=fun W g=>to5_any (t:Int) G H I Y Z J c2 d2 f2 r s l W (NF W g) (RF W g) (SF W g) L (by rw[←L1.o];omega) (by rw[←L2.o];omega) (by rw[←L3.o];omega)
  unfold MadeCf at af;rw[←L1.o,←L2.o,←L3.o]at af;have aF:=fun W g=>Hri.right_any 3 E Ax cx W (XF W g) ae (by omega)
  have aG:=fun W g=>rright_any 3 E Al cL W (EF W g) (by omega)
  have aH:=fun W g A5 B5 C5 c5 d5 f5 h1 h2 h3=>hchk_any 3 E t G H I A5 B5 C5 Ax O P Q c5 d5 f5 cx r s l W L1 L2 L3 h1 h2 h3 L (by omega) (by omega) (by omega) R V0 (XF W g) ae U (by omega)
  have aI:=fun W g=>rchk_any 3 E t G H I Y Z J Al O P Q c2 d2 f2 cL r s l W L1 L2 L3 (NF W g) (RF W g) (SF W g) L (by omega) (by omega) (by omega) (by omega) R V0 (EF W g) U (by omega)
  have CO:=fun W g=>outs_any y Ar cO W (OF W g) (by omega)
  have aJ:=fun W g A5 B5 C5 c5 d5 f5 h1 h2 h3 Aq cq h4=>hque_any 3 E y t G H I A5 B5 C5 Ax Aq O P Q c5 d5 f5 cx cq r s l W L1 L2 L3 h1 h2 h3 L (by omega) (by omega) (by omega) R V0 (XF W g) ae U (by omega) h4 (by omega)
  have aK:=fun W g=>rque_any 3 E y t G H I Y Z J Al Ar O P Q c2 d2 f2 cL cO r s l W L1 L2 L3 (NF W g) (RF W g) (SF W g) L (by omega) (by omega) (by omega) (by omega) R V0 (EF W g) U (by omega) (OF W g) (by omega)
  generalize rightF 3 E=rb at aF aG;generalize chkF 3 E (bgnP (t:Int) G H I r s l)=ck at aH aI;generalize quF 3 E (bgnP (t:Int) G H I r s l) y t=qb at aJ aK;have er:(rb==rb)=true:=by simp
  have ek:(ck==ck)=true:=by simp
  have eq:(qb==qb)=true:=by simp
  have HT:Hid (T n.drew):=κ (V.o _ (Below.drew ψ));have HD:=κ (Below.drew (Below.refl n.heap.size n));clear N5 R5 S5 RX RE RQ K5 NF RF SF XF EF L R V0 U ae;refine Ω T [] ?_;refine jN 0 fun q hK=>?_
  go_simp;refine(told10_any _).mono ?_;rintro e w6 ⟨rfl,aL⟩;have B6:=κ (bst HD.o aL);have ag:=κ (V.o _ B6.o);clear aL
  go_wp2_with fail
  refine hK.out _ _ ag.o ?_;clear hK q;refine jP ?_;refine jA 1 ag.o ?_;refine jA 2 ag.o ?_;refine jA 4 ag.o ?_;refine jN 3 fun q hK=>?_
  go_simp;refine(aF _ B6.o).mono ?_;rintro e w7 ⟨rfl,aM⟩;have B7:=κ (bst B6.o aM);have a5:=κ (V.o _ B7.o);clear aM
  go_wp2_with fail
  refine hK.out _ _ a5.o ?_;clear hK q;refine jP ?_;refine jN 5 fun q hK=>?_
  go_simp;refine(aG _ B7.o).mono ?_;rintro e w8 ⟨rfl,aN⟩;have B8:=κ (bst B7.o aN);have x:=κ (V.o _ B8.o);clear aN
  go_wp2_with fail
  refine hK.out _ _ x.o ?_;clear hK q;refine jP ?_;refine jA 6 x.o ?_;refine jA 7 x.o ?_;refine jA 8 x.o ?_;refine jB 9 x.o ?_;refine jA 11 x.o ?_;refine jB 13 x.o ?_;refine jA 14 x.o ?_;refine jN 10 fun q hK=>?_
  go_simp;refine(af _ B8.o).mono ?_;rintro e w9 ⟨A5,B5,C5,c5,d5,f5,rfl,aO,aP,aQ,aR⟩;have B9:=κ (bst B8.o aR);have a6:=κ (V.o _ B9.o);have a7:=κ aO;have a8:=κ aP;have a9:=κ aQ;clear aO aP aQ;clear aR
  go_wp2_with fail
  refine hK.out _ _ a6.o ?_;clear hK q;refine jP ?_;refine jN 12 fun q hK=>?_
  go_simp;refine(aH _ B9.o A5 B5 C5 c5 d5 f5 a7.o a8.o a9.o).mono ?_;rintro e bk ⟨rfl,aS⟩;have ah:=κ (bst B9.o aS);have ba:=κ (V.o _ ah.o);clear aS
  go_wp2_with fail
  refine hK.out _ _ ba.o ?_;clear hK q;refine jP ?_;refine jN 15 fun q hK=>?_
  go_simp;refine(aI _ ah.o).mono ?_;rintro e bl ⟨rfl,aT⟩;have ai:=κ (bst ah.o aT);have j:=κ (V.o _ ai.o);clear aT
  go_wp2_with fail
  refine hK.out _ _ j.o ?_;clear hK q;refine jP ?_;refine jA 16 j.o ?_;refine jA 17 j.o ?_;refine jA 18 j.o ?_;refine jB 19 j.o ?_;refine jA 21 j.o ?_;refine jA 22 j.o ?_;refine jB 25 j.o ?_;refine jA 26 j.o ?_;refine jA 27 j.o ?_;refine jN 20 fun q hK=>?_
  go_simp;refine(af _ ai.o).mono ?_;rintro e bn ⟨A7,B7,C7,c7,d7,f7,rfl,aU,aV,aW,aX⟩;have aj:=κ (bst ai.o aX);have bb:=κ (V.o _ aj.o);have bc:=κ aU;have bd:=κ aV;have be:=κ aW;clear aU aV aW;clear aX
  go_wp2_with fail
  refine hK.out _ _ bb.o ?_;clear hK q;refine jP ?_;refine jN 23 fun q hK=>?_
  go_simp;refine(CO _ aj.o).mono ?_;rintro e bo ⟨Aq,cq,rfl,aY,p,_⟩;have ak:=κ (bst aj.o p);have bf:=κ (V.o _ ak.o);have N8:=θ bc.o p;have R8:=η bd.o p;have S8:=κ (Rd.below' be.o p p.size);have NQ:=κ aY;clear aY;clear p
  go_wp2_with fail
  refine hK.out _ _ bf.o ?_;clear hK q;refine jP ?_;refine jN 24 fun q hK=>?_
  go_simp;refine(aJ _ ak.o A7 B7 C7 c7 d7 f7 N8 R8 S8 Aq cq NQ).mono ?_;rintro e bp ⟨rfl,aZ⟩;have am:=κ (bst ak.o aZ);have bg:=κ (V.o _ am.o);clear aZ
  go_wp2_with fail
  refine hK.out _ _ bg.o ?_;clear hK q;refine jP ?_;refine jN 28 fun q hK=>?_
  go_simp;refine(aK _ am.o).mono ?_;rintro e bq ⟨rfl,a0⟩;have a1:=κ (bst am.o a0);have F:=κ (V.o _ a1.o);clear a0
  go_wp2_with fail
  refine hK.out _ _ F.o ?_;clear hK q;refine jP ?_;refine jA 29 F.o ?_;refine jA 30 F.o ?_;refine jA 31 F.o ?_;refine Δ ?_
  go_wp2_with fail
  go_ret;exact madeB_mk rfl (bst U5.o a1.o)
set_option maxRecDepth 100000 in
theorem lifted(os:Os)(started:os.Started)(H:Type)(enc:TypeId×Value→H):
  ReturnsInHanded {} Tryz.checked os 3 .any (Rows.histChecksSpec.pre6 enc Tryz.prog Tryz.f3 Rows.histChecksRow.domain false) (Rows.histChecksSpec.post enc Tryz.prog Tryz.f3 false true false false):=by
 refine returnsInHanded_of_change_sized (C:=Tryz.checked) own started (by kernel_rfl) Tryz.func3
  (ChangeSpec.witness6 (enc:=enc) (C:=Tryz.checked) false ⟨#[],#[.agg #[.int .i64 0,.int .i64 0,.int .i64 0,.int .i64 0,.slice none 0 0,.slice none 0 0,.slice none 0 0],.slice none 0 0,.slice none 0 0],[]⟩ 8 (by kernel_rfl) (by kernel_rfl) (by kernel_rfl) (by kernel_rfl)) ?_
 intro W h a T gs i g J K l _;have b: ∀(j:Nat) t v,Tryz.f3.params[j]? =some t→a[j]? =some v→Value.okWide Tryz.prog W .any h t v:=g;have m:=J;obtain⟨p,q,n,hV,rfl,U,V⟩:=J;have hA:DataW.TrodAll enc Tryz.prog W 0 (fun _=>true) true Tryz.f3.params.toList a.toList T p:=n;rw[Tryz.params3]at hA b;obtain⟨L,X,Y,Z,p0,q0,o,rfl,rfl,h0,r0⟩:=trodAll_cons hA;obtain⟨O,aa,d1,ab,p1,q1,rfl,rfl,rfl,h1,r1⟩:=trodAll_cons r0;obtain⟨P,ad,d2,ae,p2,q2,rfl,rfl,rfl,h2,r2⟩:=trodAll_cons r1;obtain⟨rfl,rfl,rfl⟩:=trodAll_nil r2;obtain rfl:a= #[L,O,P]:=by cases a;simp_all
 obtain⟨Q,R,S,rfl⟩:=okWide_slice Tryz.underlying27 (b 1 _ O rfl rfl);obtain⟨fu,r⟩:=h1;obtain⟨Al,nL,cL,hv,s,_,w⟩:=open_ents (v:= .slice Q R S) r;cases hv;obtain⟨A9,n9,c9,rfl⟩:=okWide_slice Tryz.underlying28 (b 2 _ P rfl rfl);obtain⟨af,x⟩:=h2;obtain⟨Ao,cO,lO,y,z,_,E,_⟩:=open_nodesc Tryz.underlying28 Tryz.underlying71 (by kernel_rfl) rfl rfl (by kernel_rfl) (by kernel_rfl) Tryz.underlying3 Tryz.underlying3 x;cases y
 have F: ∀k∈Y.weights Tryz.prog 26,k≤reachBytes:=by
  intro k hk;have:=List.all_eq_true.1 l k (DataW.weights_mem_each (j:=0) rfl rfl k hk);simpa using this
 obtain⟨sh,wi,ra,ta,A,B,C,c,d,f,nd,ac,sy,rfl,_,_,_,_,k1,k2,k3,hn,hw,ha,G,hs,I⟩:=open_conf_s (b 0 _ L rfl rfl) h0 F;refine(inner sh wi ra ta A B C _ _ _ c d f nd ac sy Q A9 R S _ c9 lO W rfl rfl rfl k1 k2 k3 hn ha hs hw G I w s rfl E z).mono fun e W' ⟨he,hb⟩=>?_
 subst he;exact⟨_,rfl,law_post m rfl rfl rfl rfl (by kernel_rfl) Tryz.underlying4 (by rw[Tryz.params3];simp only[List.mem_cons,List.not_mem_nil,or_false,forall_eq_or_imp,forall_eq];exact⟨⟨by kernel_rfl,of_decide_eq_true (by kernel_rfl)⟩,⟨by kernel_rfl,of_decide_eq_true (by kernel_rfl)⟩,⟨by kernel_rfl,of_decide_eq_true (by kernel_rfl)⟩⟩) laidOut hb⟩
theorem over:Rows.histChecksRow.holds Tryz.pinned (OpenSpec.ofChange Rows.histChecksSpec):=
 OpenClaim.holds_of_wide 3 Tryz.f3 rfl rfl rfl rfl rfl rfl rfl ⟨rfl,rfl,rfl,rfl,rfl⟩ rfl rfl rfl rfl rfl (by kernel_rfl) Tryz.func3 (by kernel_rfl)
  (of_decide_eq_true (by kernel_rfl)) (by unfold Func.isWrapper;first|(rw[if_pos (by decide+kernel)];kernel_rfl)|(rw[if_neg (by decide+kernel)];exact⟨rfl,rfl⟩))
  (fun c a H b _=>lifted c a H b)
theorem proved:Rows.HistChecksSaid:=over
#print axioms proved
end histChecks
end Go.Proofs.YtcccdikhfgpamaaGreat
