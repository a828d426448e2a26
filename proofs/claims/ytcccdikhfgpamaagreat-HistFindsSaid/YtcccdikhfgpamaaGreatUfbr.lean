/- Texts side by side. -/
import Derived.Test.YtcccdikhfgpamaaGreatUfbg
set_option linter.unusedVariables false
set_option linter.unusedSimpArgs false
set_option maxRecDepth 100000
set_option maxHeartbeats 16000000
namespace Go.Proofs.YtcccdikhfgpamaaGreat
open Kap Abv Go.ChangeShapes Go.WideShapes Go.ChangeAt Go.RowKit Mem Tre Ref3 Law3 Fix3 Cfg Crd CrdB CrdC Rr4 Bkp Bks Bcl Dlk Stk Apt Bko Bku Bka Bkc Rmp Lat Lax
namespace Lfx
open Mdp hiding Mm Mm_below Mm_set Mm_off Mm_ep Mm_cr Mm_book Mm_lt
open Lou (stN stN_blk stN_below c15_of)
theorem c16_of{W:World}{g:Nat}{te:TypeId}{v0 v1 v2 v3 v4 v5 v6 v7 v8 v9 v10 v11 v12 v13 v14 v15:Value}(h:Blk W g te #[v0,v1,v2,v3,v4,v5,v6,v7,v8,v9,v10,v11,v12,v13,v14,v15]):W.cell? ⟨g,0,none⟩=some v0∧W.cell? ⟨g,1,none⟩=some v1∧W.cell? ⟨g,2,none⟩=some v2∧W.cell? ⟨g,3,none⟩=some v3∧W.cell? ⟨g,4,none⟩=some v4∧W.cell? ⟨g,5,none⟩=some v5∧W.cell? ⟨g,6,none⟩=some v6∧W.cell? ⟨g,7,none⟩=some v7∧W.cell? ⟨g,8,none⟩=some v8∧W.cell? ⟨g,9,none⟩=some v9∧W.cell? ⟨g,10,none⟩=some v10∧W.cell? ⟨g,11,none⟩=some v11∧W.cell? ⟨g,12,none⟩=some v12∧W.cell? ⟨g,13,none⟩=some v13∧W.cell? ⟨g,14,none⟩=some v14∧W.cell? ⟨g,15,none⟩=some v15:=⟨h.cell 0,h.cell 1,h.cell 2,h.cell 3,h.cell 4,h.cell 5,h.cell 6,h.cell 7,h.cell 8,h.cell 9,h.cell 10,h.cell 11,h.cell 12,h.cell 13,h.cell 14,h.cell 15⟩
theorem rem_at(i:Int)(n:Nat)(hi:0≤i)(hn:1≤n): ∃k:Nat,i.tmod (n:Int)=(k:Int)∧k<n:=by
 have a:=Int.tmod_lt_of_pos i (b:=(n:Int)) (by omega);have c:0≤i.tmod (n:Int):=Int.tmod_nonneg _ hi;exact⟨(i.tmod (n:Int)).toNat,by omega,by omega⟩
def MadeFx(k a s:Int)(x:Bool)(p q n t y z v:Int)(sw:Bool)(sx ex:Int)(w:World)(e:Ending)(w':World):Prop:=
 ∃j:Int,e= .returned (.agg #[.int .i64 k,.int .i64 a,.int .i64 s,.bool x,.int .i64 p,.int .i64 q,.int .i64 n,.int .i64 t,.int .i64 j,.int .i64 y,.int .i64 z,.int .i64 v,.bool sw,.int .i64 sx,.int .i64 ex])∧Below w.heap.size w w'
theorem fix9_any(base g:Nat)(qm:Mq)(k a s p q n t i y z v wh sx ex:Int)(x sw:Bool)(w:World)(h:Hid (Rm base w g qm))(hnb:qm.nb≤1000)(hf:Hid (∀k,k<qm.xs.length→(gX qm.xs k).b.op.length≤1000))(hwh:wh≤9223372036854775807):
  Calls Tryz.prog 18 #[.pointer (some ⟨g,0,none⟩),.agg #[.int .i64 k,.int .i64 a,.int .i64 s,.bool x,.int .i64 p,.int .i64 q,.int .i64 n,.int .i64 t,.int .i64 i,.int .i64 y,.int .i64 z,.int .i64 v,.int .i64 wh,.bool sw,.int .i64 sx,.int .i64 ex]] w (MadeFx k a s x p q n t y z v sw sx ex w):=by
 obtain⟨i0,hi,aH,aI,aJ⟩:=info_parts Bkw.infoN;obtain⟨sh,wi,ra,ta,A,B,C,nl,al,sl,c,d,f,nd,ac,sy,Ab,nb,cb,xs,An,Au,n1,n2,d1,d2,cl,cu,ep,a4⟩:=qm;simp only at hnb hf;have L4:=κ (ξ h.out.l4);have b0:Hid (Below w.heap.size w (((w.alloc (.cells #[ι k,ι a,ι s,.bool x,ι p,ι q,ι n,ι t,ι i,ι y,ι z,ι v,ι wh,.bool sw,ι sx,ι ex] 62)).alloc (.cells (vP 0 0 0 false 0 0 0 0 0 0 0 0 false 0 0) 59)).alloc (.cells (vP k a s x p q n t i y z v sw sx ex) 59))):=((ψ.alloc τ _).alloc (by simp) _).alloc (by simp;omega) _;have X0:Hid (Blk (((w.alloc (.cells #[ι k,ι a,ι s,.bool x,ι p,ι q,ι n,ι t,ι i,ι y,ι z,ι v,ι wh,.bool sw,ι sx,ι ex] 62)).alloc (.cells (vP 0 0 0 false 0 0 0 0 0 0 0 0 false 0 0) 59)).alloc (.cells (vP k a s x p q n t i y z v sw sx ex) 59)) w.heap.size 62 #[ι k,ι a,ι s,.bool x,ι p,ι q,ι n,ι t,ι i,ι y,ι z,ι v,ι wh,.bool sw,ι sx,ι ex]):=((Blk.fresh w _ _).alloc _).alloc _;have Z0:Hid (Blk (((w.alloc (.cells #[ι k,ι a,ι s,.bool x,ι p,ι q,ι n,ι t,ι i,ι y,ι z,ι v,ι wh,.bool sw,ι sx,ι ex] 62)).alloc (.cells (vP 0 0 0 false 0 0 0 0 0 0 0 0 false 0 0) 59)).alloc (.cells (vP k a s x p q n t i y z v sw sx ex) 59)) (w.heap.size+1) 59 (vP 0 0 0 false 0 0 0 0 0 0 0 0 false 0 0)):=(blk_hd (by simp):Blk ((w.alloc (.cells #[ι k,ι a,ι s,.bool x,ι p,ι q,ι n,ι t,ι i,ι y,ι z,ι v,ι wh,.bool sw,ι sx,ι ex] 62)).alloc (.cells (vP 0 0 0 false 0 0 0 0 0 0 0 0 false 0 0) 59)) (w.heap.size+1) 59 (vP 0 0 0 false 0 0 0 0 0 0 0 0 false 0 0)).alloc _;have O0:=κ (δ ((w.alloc (.cells #[ι k,ι a,ι s,.bool x,ι p,ι q,ι n,ι t,ι i,ι y,ι z,ι v,ι wh,.bool sw,ι sx,ι ex] 62)).alloc (.cells (vP 0 0 0 false 0 0 0 0 0 0 0 0 false 0 0) 59)) 59 (vP k a s x p q n t i y z v sw sx ex) (w.heap.size+2));have M0:=κ (Rm_below h.out b0.out)
 go_enter Tryz.func18,Tryz.ntmps18
 go_upto_region 2 with fail
 generalize (((w.alloc (.cells #[ι k,ι a,ι s,.bool x,ι p,ι q,ι n,ι t,ι i,ι y,ι z,ι v,ι wh,.bool sw,ι sx,ι ex] 62)).alloc (.cells (vP 0 0 0 false 0 0 0 0 0 0 0 0 false 0 0) 59)).alloc (.cells (vP k a s x p q n t i y z v sw sx ex) 59))=w0 at b0 X0 Z0 O0 M0 ⊢;obtain⟨a5,ai⟩:=ν w.heap.size;obtain⟨l,aj⟩:=ν (w.heap.size+1);obtain⟨gO,ak⟩:=ν (w.heap.size+2);have X1:=κ (ζ ai X0.out);have Z1:=κ (ζ aj Z0.out);have O1:=κ (ζ ak O0.out);have X:Hid (w.heap.size≤l∧w.heap.size≤gO∧l≠gO):=by show _∧_;omega
 simp only[←ak];simp only[←aj];simp only[←ai];clear ai aj ak X0 Z0 O0
 go_wp2_with fail
 go_loopg [6,7] nb (fun g6 s6 s7 w'=> ∃(j D:Nat) (W:Option Addr) (Y:Nat) (K:List Int),j+g6=nb∧s7= ι j∧s6= .slice W D Y∧Hid (D=K.length)∧D≤j*1000∧Hid (w'.ownsRow w0.heap.size 3 1 (.slice W D Y) D (ints K))∧Hid (Below w0.heap.size w0 w'))
 case atStart=>exact⟨0,0,none,0,[],by omega,rfl,rfl,rfl,by omega,World.ownsRow_nil _ _ _ _,Below.refl _ _⟩
 case round=>
  obtain⟨j,D,W,Y,K,hj,rfl,rfl,L,aq,H,e⟩:=hrel;have Z:=κ (Rm_below M0.out (e.out));have k7:wr.cell? (α g 7)=some (.slice Ab nb cb):=Z.out.blk.cell 7;by_cases hlt:j<nb
  ·obtain⟨aK,rfl⟩: ∃g9,gk=g9+1:=⟨gk-1,by omega⟩;have t0:decide ((j:Int)<(nb:Int))=true:=by simp;omega
   obtain⟨gb,ar⟩:=own_at Z.out.row (by show 0<nb;omega);simp only at ar;subst ar;have am:j<xs.length:=by rw[←L4.out];exact hlt
   go_wp2_with fail
   clear k7 t0 Z;obtain⟨no,an⟩:=ν ((gX xs j).b.op.length);have au:=κ an;have a6:no≤1000:=by rw[an];exact hf.out j am
   clear an
   go_loopg [6,8] no (fun g8 s6 s8 w'=> ∃(m D:Nat) (W:Option Addr) (Y:Nat) (K:List Int),m+g8=no∧s8= ι m∧s6= .slice W D Y∧Hid (D=K.length)∧D≤j*1000+m∧Hid (w'.ownsRow w0.heap.size 3 1 (.slice W D Y) D (ints K))∧Hid (Below w0.heap.size w0 w'))
   case atStart=>exact⟨0,D,W,Y,K,by omega,rfl,rfl,L,by omega,H,e⟩
   case round=>
    clear L aq H e;obtain⟨m,D,W,Y,K,hm,rfl,rfl,L,aq,H,e⟩:=hrel;have Z:=κ (Rm_below M0.out (e.out));have k7:wr.cell? (α g 7)=some (.slice (some (α gb 0)) nb cb):=Z.out.blk.cell 7;have av:=own_room Z.out.row;have c3:=av.2.2.2.2.2 (j*4+3) _ (by have:=bxs_get xs j 3 am (by decide);exact this);have aw:wr.cell? (α gb (j*4+3))=some (.slice (gX xs j).C no (gX xs j).d):=by rw[au.out];exact c3
    clear c3 av;have a7:decide (j<nb)=true:=by simp;omega
    by_cases hlm:m<no
    ·obtain⟨g8,rfl⟩: ∃g9,gk=g9+1:=⟨gk-1,by omega⟩;have t0:decide ((m:Int)<(no:Int))=true:=by simp;omega
     have ao:m<(gX xs j).b.op.length:=by rw[←au.out];exact hlm
     obtain⟨b5,o5,ax,a8,ay⟩:=Ens.at (Z.out.bm j am).o (Nat.lt_of_le_of_lt (Nat.zero_le _) ao);have d0:=(ay m ao).1;clear ay;rw[ax]at aw;generalize (gE (gX xs j).b.op m).id=F at d0;generalize (gX xs j).d=dd at aw;clear Z ao ax
     have aL:D≤1000000:=by
      have h1:j*1000+1000≤1000*1000:=by omega
      omega
     go_wp2_with (first|(at_builtin;refine wpList_app1 H.out e.out rfl _ _ _ rfl i0 (.int .i64 0) 8 Tryz.underlying23 hi aH aI aJ rfl (by decide) rfl rfl rfl [.int .i64 F] rfl rfl (by simp[Value.oneCell']) (by unfold maxLen;omega) (by omega) τ e.out.size e.out.size ?_;intro A1 c1 w1 M O a9))
     have aM:Hid (D+1=(K++[F]).length):=by show _=_;rw[List.length_append,L.out];rfl
     have aN:Hid (w1.ownsRow w0.heap.size 3 1 (.slice A1 (D+1) c1) (D+1) (ints (K++[F]))):=by rw[ints_snoc];exact M.out
     have aO:=κ O;clear M O
     go_roundg g8
     case measure=>omega
     case rel=>exact⟨m+1,D+1,A1,c1,K++[F],by omega,by go_num,rfl,aM,by omega,aN,aO⟩
    ·have t0:decide ((m:Int)<(no:Int))=false:=by simp;omega
     have aP:D≤(j+1)*1000:=by omega
     go_wp2_with fail
     go_roundg aK
     case measure=>omega
     case rel=>exact⟨j+1,D,W,Y,K,by omega,by go_num,rfl,L,aP,H,e⟩
  ·have t0:decide ((j:Int)<(nb:Int))=false:=by simp;omega
   have aL:D≤1000000:=by omega
   have X2:=κ (Blk.below' X1.out e.out);have Z2:=κ (Blk.below' Z1.out e.out);have O2:=κ (Blk.below' O1.out e.out);have B2:=κ (CrdB.below_step b0.out e.out);have ap:=H.out;rw[L.out]at ap;have R2:Hid (Ris wr wr.heap.size W K):=Rd.of_own ap;clear ap
   go_upto_region 10 with fail
   clear k7 t0 Z X1 Z1 O1 H e;obtain⟨x0,x1,x2,x3,x4,x5,x6,x7,x8,x9,az,aA,aB,aC,aD,aE⟩:=c16_of X2.out;obtain⟨o0,o1,o2,o3,o4,o5,o6,o7,o8,o9,aa,ab,ad,ae,af⟩:=c15_of O2.out
   go_cut [80] (fun aQ wx=> ∃b:Bool,aQ= .bool b∧Hid (b=true→0≤wh∧0<D)∧wx=wr)
   case first=>
    by_cases h1:k=1
    ·have e1:(k==1)=true:=by simp[h1]
     clear h1;by_cases ag:0≤wh
     ·have e5:decide (0≤wh)=true:=by simp;omega
      by_cases ah:0<D
      ·have e6:decide (0<(D:Int))=true:=by simp;omega
       go_wp2_with fail
       go_meet;exact⟨true,rfl,fun _=>⟨by omega,by omega⟩,rfl⟩
      ·have e6:decide (0<(D:Int))=false:=by simp;omega
       go_wp2_with fail
       go_meet;exact⟨false,rfl,fun h=>(by cases h),rfl⟩
     ·have e5:decide (0≤wh)=false:=by simp;omega
      go_wp2_with fail
      go_meet;exact⟨false,rfl,fun h=>(by cases h),rfl⟩
    ·have e1:(k==1)=false:=by simp[h1]
     clear h1;by_cases h2:k=2
     ·have e2:(k==2)=true:=by simp[h2]
      clear h2;by_cases ag:0≤wh
      ·have e5:decide (0≤wh)=true:=by simp;omega
       by_cases ah:0<D
       ·have e6:decide (0<(D:Int))=true:=by simp;omega
        go_wp2_with fail
        go_meet;exact⟨true,rfl,fun _=>⟨by omega,by omega⟩,rfl⟩
       ·have e6:decide (0<(D:Int))=false:=by simp;omega
        go_wp2_with fail
        go_meet;exact⟨false,rfl,fun h=>(by cases h),rfl⟩
      ·have e5:decide (0≤wh)=false:=by simp;omega
       go_wp2_with fail
       go_meet;exact⟨false,rfl,fun h=>(by cases h),rfl⟩
     ·have e2:(k==2)=false:=by simp[h2]
      clear h2;by_cases h3:k=3
      ·have e3:(k==3)=true:=by simp[h3]
       clear h3;by_cases ag:0≤wh
       ·have e5:decide (0≤wh)=true:=by simp;omega
        by_cases ah:0<D
        ·have e6:decide (0<(D:Int))=true:=by simp;omega
         go_wp2_with fail
         go_meet;exact⟨true,rfl,fun _=>⟨by omega,by omega⟩,rfl⟩
        ·have e6:decide (0<(D:Int))=false:=by simp;omega
         go_wp2_with fail
         go_meet;exact⟨false,rfl,fun h=>(by cases h),rfl⟩
       ·have e5:decide (0≤wh)=false:=by simp;omega
        go_wp2_with fail
        go_meet;exact⟨false,rfl,fun h=>(by cases h),rfl⟩
      ·have e3:(k==3)=false:=by simp[h3]
       clear h3
       go_wp2_with fail
       go_meet;exact⟨false,rfl,fun h=>(by cases h),rfl⟩
   case rest=>
    obtain⟨bb,rfl,aR,rfl⟩:=hcut
    rename World=>wr
    cases bb with
    |true=>
     obtain⟨ag,ah⟩:=aR.out rfl;obtain⟨r,ba,aS⟩:=rem_at wh D ag ah;have aF:r<K.length:=by rw[←L.out];exact aS
     obtain⟨b6,bc,aT,bd,aG⟩:=Ris.at R2.out aF;have d6:=aG r aF;subst aT;generalize gI K r=F at d6;have be: ¬((D:Int)=0):=by omega
     have bf:IntKind.i64.wrap (r:Int)=(r:Int):=by rw[IntKind.wrap_i64];omega
     have f8:=O2.out.thaw 8;have O3:=κ (ξ (blk_st O2.out 8 (ι F)));have Z3:Hid (Blk (wr.setCell (α gO 8) (ι F)) l 59 (vP 0 0 0 false 0 0 0 0 0 0 0 0 false 0 0)):=far_st Z2.out X.out.2.2 _;have B3:Hid (Below w.heap.size w (wr.setCell (α gO 8) (ι F))):=B2.out.setCell (p:=(α gO 8)) X.out.2.1 _;clear aG
     go_upto_region 12 with fail
     clear o0 o1 o2 o3 o4 o5 o6 o7 o8 o9 aa ab ad ae af x0 x1 x2 x3 x4 x5 x6 x7 x8 x9 az aA aB aC aD aE f8 d6 R2 O2 Z2 B2 X2;generalize wr.setCell (α gO 8) (ι F)=I at O3 Z3 B3 ⊢;have Z2:=Z3;have B2:=B3;have f3:Blk (stN I l 0 [ι k,ι a,ι s,.bool x,ι p,ι q,ι n,ι t,ι F,ι y,ι z,ι v,.bool sw,ι sx,ι ex]) l 59 (vP k a s x p q n t F y z v sw sx ex):=stN_blk Z2.out rfl;have J:Below w.heap.size w (stN I l 0 [ι k,ι a,ι s,.bool x,ι p,ι q,ι n,ι t,ι F,ι y,ι z,ι v,.bool sw,ι sx,ι ex]):=stN_below X.out.1 _ _ B2.out;obtain⟨o0,o1,o2,o3,o4,o5,o6,o7,o8,o9,aa,ab,ad,ae,af⟩:=c15_of O3.out;obtain⟨z0,z1,z2,z3,z4,z5,z6,z7,z8,z9,aU,aV,aW,aX,aY⟩:=c15_of Z2.out;have E:=fun j=>Z2.out.thaw j
     obtain⟨y0,y1,y2,y3,y4,y5,y6,y7,y8,y9,aZ,a0,a1,a2,a3⟩:I.frozen? ⟨l,0,none⟩=false∧I.frozen? ⟨l,1,none⟩=false∧I.frozen? ⟨l,2,none⟩=false∧I.frozen? ⟨l,3,none⟩=false∧I.frozen? ⟨l,4,none⟩=false∧I.frozen? ⟨l,5,none⟩=false∧I.frozen? ⟨l,6,none⟩=false∧I.frozen? ⟨l,7,none⟩=false∧I.frozen? ⟨l,8,none⟩=false∧I.frozen? ⟨l,9,none⟩=false∧I.frozen? ⟨l,10,none⟩=false∧I.frozen? ⟨l,11,none⟩=false∧I.frozen? ⟨l,12,none⟩=false∧I.frozen? ⟨l,13,none⟩=false∧I.frozen? ⟨l,14,none⟩=false:=⟨E 0,E 1,E 2,E 3,E 4,E 5,E 6,E 7,E 8,E 9,E 10,E 11,E 12,E 13,E 14⟩;clear E
     go_wp2_with fail
     obtain⟨d0,d1,d2,d3,d4,d5,d6,d7,d8,d9,P,Q,T,U,V⟩:=c15_of f3;simp only[stN,Nat.reduceAdd]at d0 d1 d2 d3 d4 d5 d6 d7 d8 d9 P Q T U V J;exact bodyPost_ret (v:= .agg #[ι k,ι a,ι s,.bool x,ι p,ι q,ι n,ι t,ι F,ι y,ι z,ι v,.bool sw,ι sx,ι ex]) (by simp[results,Tryz.results18,go_sem,d0,d1,d2,d3,d4,d5,d6,d7,d8,d9,P,Q,T,U,V]) rfl ⟨F,rfl,J⟩
    |false=>
     clear o0 o1 o2 o3 o4 o5 o6 o7 o8 o9 aa ab ad ae af x0 x1 x2 x3 x4 x5 x6 x7 x8 x9 az aA aB aC aD aE X2 R2;have f3:Blk (stN wr l 0 [ι k,ι a,ι s,.bool x,ι p,ι q,ι n,ι t,ι i,ι y,ι z,ι v,.bool sw,ι sx,ι ex]) l 59 (vP k a s x p q n t i y z v sw sx ex):=stN_blk Z2.out rfl;have J:Below w.heap.size w (stN wr l 0 [ι k,ι a,ι s,.bool x,ι p,ι q,ι n,ι t,ι i,ι y,ι z,ι v,.bool sw,ι sx,ι ex]):=stN_below X.out.1 _ _ B2.out;obtain⟨o0,o1,o2,o3,o4,o5,o6,o7,o8,o9,aa,ab,ad,ae,af⟩:=c15_of O2.out;obtain⟨z0,z1,z2,z3,z4,z5,z6,z7,z8,z9,aU,aV,aW,aX,aY⟩:=c15_of Z2.out;have E:=fun j=>Z2.out.thaw j
     obtain⟨y0,y1,y2,y3,y4,y5,y6,y7,y8,y9,aZ,a0,a1,a2,a3⟩:wr.frozen? ⟨l,0,none⟩=false∧wr.frozen? ⟨l,1,none⟩=false∧wr.frozen? ⟨l,2,none⟩=false∧wr.frozen? ⟨l,3,none⟩=false∧wr.frozen? ⟨l,4,none⟩=false∧wr.frozen? ⟨l,5,none⟩=false∧wr.frozen? ⟨l,6,none⟩=false∧wr.frozen? ⟨l,7,none⟩=false∧wr.frozen? ⟨l,8,none⟩=false∧wr.frozen? ⟨l,9,none⟩=false∧wr.frozen? ⟨l,10,none⟩=false∧wr.frozen? ⟨l,11,none⟩=false∧wr.frozen? ⟨l,12,none⟩=false∧wr.frozen? ⟨l,13,none⟩=false∧wr.frozen? ⟨l,14,none⟩=false:=⟨E 0,E 1,E 2,E 3,E 4,E 5,E 6,E 7,E 8,E 9,E 10,E 11,E 12,E 13,E 14⟩;clear E
     go_wp2_with fail
     obtain⟨d0,d1,d2,d3,d4,d5,d6,d7,d8,d9,P,Q,T,U,V⟩:=c15_of f3;simp only[stN,Nat.reduceAdd]at d0 d1 d2 d3 d4 d5 d6 d7 d8 d9 P Q T U V J;exact bodyPost_ret (v:= .agg #[ι k,ι a,ι s,.bool x,ι p,ι q,ι n,ι t,ι i,ι y,ι z,ι v,.bool sw,ι sx,ι ex]) (by simp[results,Tryz.results18,go_sem,d0,d1,d2,d3,d4,d5,d6,d7,d8,d9,P,Q,T,U,V]) rfl ⟨i,rfl,J⟩
end Lfx
end Go.Proofs.YtcccdikhfgpamaaGreat
