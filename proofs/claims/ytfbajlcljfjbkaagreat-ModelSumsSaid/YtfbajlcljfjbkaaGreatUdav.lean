/- Texts side by side. -/
import Derived.Test.YtfbajlcljfjbkaaGreatUdai
import Derived.Test.YtfbajlcljfjbkaaGreatUdau
set_option linter.unusedVariables false
set_option linter.unusedSimpArgs false
set_option maxRecDepth 100000
set_option maxHeartbeats 16000000
namespace Go.Proofs.YtfbajlcljfjbkaaGreat
open Kap Abv Go.ChangeShapes Go.WideShapes Go.ChangeAt Go.RowKit Mem Tre Ref3 Law3 Fix3 Cfg Crd CrdB CrdC Rr4 Bkp Bks Bcl Dlk Stk Apt Bko Bku Bka Bkc Rmp Lat Lax
namespace Lfx
open Mdp hiding Mm Mm_below Mm_set Mm_off Mm_ep Mm_cr Mm_book Mm_lt
open Lou (stN stN_blk stN_below c15_of)
theorem c16_of{W:World}{g:Nat}{te:TypeId}{v0 v1 v2 v3 v4 v5 v6 v7 v8 v9 v10 v11 v12 v13 v14 v15:Value}(h:Blk W g te #[v0,v1,v2,v3,v4,v5,v6,v7,v8,v9,v10,v11,v12,v13,v14,v15]):W.cell? ⟨g,0,none⟩=some v0∧W.cell? ⟨g,1,none⟩=some v1∧W.cell? ⟨g,2,none⟩=some v2∧W.cell? ⟨g,3,none⟩=some v3∧W.cell? ⟨g,4,none⟩=some v4∧W.cell? ⟨g,5,none⟩=some v5∧W.cell? ⟨g,6,none⟩=some v6∧W.cell? ⟨g,7,none⟩=some v7∧W.cell? ⟨g,8,none⟩=some v8∧W.cell? ⟨g,9,none⟩=some v9∧W.cell? ⟨g,10,none⟩=some v10∧W.cell? ⟨g,11,none⟩=some v11∧W.cell? ⟨g,12,none⟩=some v12∧W.cell? ⟨g,13,none⟩=some v13∧W.cell? ⟨g,14,none⟩=some v14∧W.cell? ⟨g,15,none⟩=some v15:=⟨h.cell 0,h.cell 1,h.cell 2,h.cell 3,h.cell 4,h.cell 5,h.cell 6,h.cell 7,h.cell 8,h.cell 9,h.cell 10,h.cell 11,h.cell 12,h.cell 13,h.cell 14,h.cell 15⟩
theorem rem_at(i:Int)(n:Nat)(hi:0≤i)(hn:1≤n): ∃k:Nat,i.tmod (n:Int)=(k:Int)∧k<n:=by
 have a1:=Int.tmod_lt_of_pos i (b:=(n:Int)) (by omega);have a2:0≤i.tmod (n:Int):=Int.tmod_nonneg _ hi;exact⟨(i.tmod (n:Int)).toNat,by omega,by omega⟩
def MadeFx(k a s:Int)(x:Bool)(p q n t y z v:Int)(sw:Bool)(sx ex:Int)(w:World)(e:Ending)(w':World):Prop:=
 ∃j:Int,e= .returned (.agg #[.int .i64 k,.int .i64 a,.int .i64 s,.bool x,.int .i64 p,.int .i64 q,.int .i64 n,.int .i64 t,.int .i64 j,.int .i64 y,.int .i64 z,.int .i64 v,.bool sw,.int .i64 sx,.int .i64 ex])∧Below w.heap.size w w'
theorem fix9_any(base g:Nat)(qm:Mq)(k a s p q n t i y z v wh sx ex:Int)(x sw:Bool)(w:World)(h:Hid (Rm base w g qm))(hnb:qm.nb≤1000)(hf:Hid (∀k,k<qm.xs.length→(gX qm.xs k).b.op.length≤1000))(hwh:wh≤9223372036854775807):
  Calls Tryz.prog 12 #[.pointer (some ⟨g,0,none⟩),.agg #[.int .i64 k,.int .i64 a,.int .i64 s,.bool x,.int .i64 p,.int .i64 q,.int .i64 n,.int .i64 t,.int .i64 i,.int .i64 y,.int .i64 z,.int .i64 v,.int .i64 wh,.bool sw,.int .i64 sx,.int .i64 ex]] w (MadeFx k a s x p q n t y z v sw sx ex w):=by
 obtain⟨i0,hi,hz0,hz1,hz2⟩:=info_parts Bkw.infoN;obtain⟨sh,wi,ra,ta,A,B,C,nl,al,sl,c,d,f,nd,ac,sy,Ab,nb,cb,xs,An,Au,n1,n2,d1,d2,cl,cu,ep,off⟩:=qm;simp only at hnb hf;have L4:=κ (ξ h.out.l4);have b0:Hid (Below w.heap.size w (((w.alloc (.cells #[ι k,ι a,ι s,.bool x,ι p,ι q,ι n,ι t,ι i,ι y,ι z,ι v,ι wh,.bool sw,ι sx,ι ex] 54)).alloc (.cells (vP 0 0 0 false 0 0 0 0 0 0 0 0 false 0 0) 51)).alloc (.cells (vP k a s x p q n t i y z v sw sx ex) 51))):=((ψ.alloc τ _).alloc (by simp) _).alloc (by simp;omega) _;have X0:Hid (Blk (((w.alloc (.cells #[ι k,ι a,ι s,.bool x,ι p,ι q,ι n,ι t,ι i,ι y,ι z,ι v,ι wh,.bool sw,ι sx,ι ex] 54)).alloc (.cells (vP 0 0 0 false 0 0 0 0 0 0 0 0 false 0 0) 51)).alloc (.cells (vP k a s x p q n t i y z v sw sx ex) 51)) w.heap.size 54 #[ι k,ι a,ι s,.bool x,ι p,ι q,ι n,ι t,ι i,ι y,ι z,ι v,ι wh,.bool sw,ι sx,ι ex]):=((Blk.fresh w _ _).alloc _).alloc _;have Z0:Hid (Blk (((w.alloc (.cells #[ι k,ι a,ι s,.bool x,ι p,ι q,ι n,ι t,ι i,ι y,ι z,ι v,ι wh,.bool sw,ι sx,ι ex] 54)).alloc (.cells (vP 0 0 0 false 0 0 0 0 0 0 0 0 false 0 0) 51)).alloc (.cells (vP k a s x p q n t i y z v sw sx ex) 51)) (w.heap.size+1) 51 (vP 0 0 0 false 0 0 0 0 0 0 0 0 false 0 0)):=(blk_hd (by simp):Blk ((w.alloc (.cells #[ι k,ι a,ι s,.bool x,ι p,ι q,ι n,ι t,ι i,ι y,ι z,ι v,ι wh,.bool sw,ι sx,ι ex] 54)).alloc (.cells (vP 0 0 0 false 0 0 0 0 0 0 0 0 false 0 0) 51)) (w.heap.size+1) 51 (vP 0 0 0 false 0 0 0 0 0 0 0 0 false 0 0)).alloc _;have O0:=κ (δ ((w.alloc (.cells #[ι k,ι a,ι s,.bool x,ι p,ι q,ι n,ι t,ι i,ι y,ι z,ι v,ι wh,.bool sw,ι sx,ι ex] 54)).alloc (.cells (vP 0 0 0 false 0 0 0 0 0 0 0 0 false 0 0) 51)) 51 (vP k a s x p q n t i y z v sw sx ex) (w.heap.size+2));have M0:=κ (Rm_below h.out b0.out)
 go_enter Tryz.func12,Tryz.ntmps12
 go_upto_region 2 with fail
 generalize (((w.alloc (.cells #[ι k,ι a,ι s,.bool x,ι p,ι q,ι n,ι t,ι i,ι y,ι z,ι v,ι wh,.bool sw,ι sx,ι ex] 54)).alloc (.cells (vP 0 0 0 false 0 0 0 0 0 0 0 0 false 0 0) 51)).alloc (.cells (vP k a s x p q n t i y z v sw sx ex) 51))=w0 at b0 X0 Z0 O0 M0 ⊢;obtain⟨gX9,hgX⟩:=ν w.heap.size;obtain⟨gZ,hgZ⟩:=ν (w.heap.size+1);obtain⟨gO,hgO⟩:=ν (w.heap.size+2);have X1:=κ (ζ hgX X0.out);have Z1:=κ (ζ hgZ Z0.out);have O1:=κ (ζ hgO O0.out);have hgz:Hid (w.heap.size≤gZ∧w.heap.size≤gO∧gZ≠gO):=by show _∧_;omega
 simp only[←hgO];simp only[←hgZ];simp only[←hgX];clear hgX hgZ hgO X0 Z0 O0
 go_wp2_with fail
 go_loopg [6,7] nb (fun g6 s6 s7 w'=> ∃(j n6:Nat) (A6:Option Addr) (c6:Nat) (L6:List Int),j+g6=nb∧s7= ι j∧s6= .slice A6 n6 c6∧Hid (n6=L6.length)∧n6≤j*1000∧Hid (w'.ownsRow w0.heap.size 3 1 (.slice A6 n6 c6) n6 (ints L6))∧Hid (Below w0.heap.size w0 w'))
 case atStart=>exact⟨0,0,none,0,[],by omega,rfl,rfl,rfl,by omega,World.ownsRow_nil _ _ _ _,Below.refl _ _⟩
 case round=>
  obtain⟨j,n6,A6,c6,L6,hj,rfl,rfl,HN6,hn6,hown,hbel⟩:=hrel;have M1:=κ (Rm_below M0.out (hbel.out));have k7:wr.cell? (α g 7)=some (.slice Ab nb cb):=M1.out.blk.cell 7;by_cases hlt:j<nb
  ·obtain⟨go1,rfl⟩: ∃g9,gk=g9+1:=⟨gk-1,by omega⟩;have t0:decide ((j:Int)<(nb:Int))=true:=by simp;omega
   obtain⟨gb,hgb⟩:=own_at M1.out.row (by show 0<nb;omega);simp only at hgb;subst hgb;have hjx:j<xs.length:=by rw[←L4.out];exact hlt
   go_wp2_with fail
   clear k7 t0 M1;obtain⟨no,hno⟩:=ν ((gX xs j).b.op.length);have HNO:=κ hno;have hno1:no≤1000:=by rw[hno];exact hf.out j hjx
   clear hno
   go_loopg [6,8] no (fun g8 s6 s8 w'=> ∃(m n6:Nat) (A6:Option Addr) (c6:Nat) (L6:List Int),m+g8=no∧s8= ι m∧s6= .slice A6 n6 c6∧Hid (n6=L6.length)∧n6≤j*1000+m∧Hid (w'.ownsRow w0.heap.size 3 1 (.slice A6 n6 c6) n6 (ints L6))∧Hid (Below w0.heap.size w0 w'))
   case atStart=>exact⟨0,n6,A6,c6,L6,by omega,rfl,rfl,HN6,by omega,hown,hbel⟩
   case round=>
    clear HN6 hn6 hown hbel;obtain⟨m,n6,A6,c6,L6,hm,rfl,rfl,HN6,hn6,hown,hbel⟩:=hrel;have M1:=κ (Rm_below M0.out (hbel.out));have k7:wr.cell? (α g 7)=some (.slice (some (α gb 0)) nb cb):=M1.out.blk.cell 7;have RM2:=own_room M1.out.row;have c3:=RM2.2.2.2.2.2 (j*4+3) _ (by have:=bxs_get xs j 3 hjx (by decide);exact this);have c3':wr.cell? (α gb (j*4+3))=some (.slice (gX xs j).C no (gX xs j).d):=by rw[HNO.out];exact c3
    clear c3 RM2;have hlt':decide (j<nb)=true:=by simp;omega
    by_cases hlm:m<no
    ·obtain⟨g8,rfl⟩: ∃g9,gk=g9+1:=⟨gk-1,by omega⟩;have t0:decide ((m:Int)<(no:Int))=true:=by simp;omega
     have hmo:m<(gX xs j).b.op.length:=by rw[←HNO.out];exact hlm
     obtain⟨b5,o5,hA5,hb5,hcc⟩:=Ens.at (M1.out.bm j hjx).o (Nat.lt_of_le_of_lt (Nat.zero_le _) hmo);have d0:=(hcc m hmo).1;clear hcc;rw[hA5]at c3';generalize (gE (gX xs j).b.op m).id=idv at d0;generalize (gX xs j).d=dd at c3';clear M1 hmo hA5
     have hn9:n6≤1000000:=by
      have h1:j*1000+1000≤1000*1000:=by omega
      omega
     go_wp2_with (first|(at_builtin;refine wpList_app1 hown.out hbel.out rfl _ _ _ rfl i0 (.int .i64 0) 8 Tryz.underlying23 hi hz0 hz1 hz2 rfl (by decide) rfl rfl rfl [.int .i64 idv] rfl rfl (by simp[Value.oneCell']) (by unfold maxLen;omega) (by omega) τ hbel.out.size hbel.out.size ?_;intro A1 c1 w1 hown1 hbel1 hsz1))
     have HN1:Hid (n6+1=(L6++[idv]).length):=by show _=_;rw[List.length_append,HN6.out];rfl
     have HO1:Hid (w1.ownsRow w0.heap.size 3 1 (.slice A1 (n6+1) c1) (n6+1) (ints (L6++[idv]))):=by rw[ints_snoc];exact hown1.out
     have HB1:=κ hbel1;clear hown1 hbel1
     go_roundg g8
     case measure=>omega
     case rel=>exact⟨m+1,n6+1,A1,c1,L6++[idv],by omega,by go_num,rfl,HN1,by omega,HO1,HB1⟩
    ·have t0:decide ((m:Int)<(no:Int))=false:=by simp;omega
     have hn7:n6≤(j+1)*1000:=by omega
     go_wp2_with fail
     go_roundg go1
     case measure=>omega
     case rel=>exact⟨j+1,n6,A6,c6,L6,by omega,by go_num,rfl,HN6,hn7,hown,hbel⟩
  ·have t0:decide ((j:Int)<(nb:Int))=false:=by simp;omega
   have hn9:n6≤1000000:=by omega
   have X2:=κ (Blk.below' X1.out hbel.out);have Z2:=κ (Blk.below' Z1.out hbel.out);have O2:=κ (Blk.below' O1.out hbel.out);have B2:=κ (CrdB.below_step b0.out hbel.out);have ho2:=hown.out;rw[HN6.out]at ho2;have R2:Hid (Ris wr wr.heap.size A6 L6):=Rd.of_own ho2;clear ho2
   go_upto_region 10 with fail
   clear k7 t0 M1 X1 Z1 O1 hown hbel;obtain⟨x0,x1,x2,x3,x4,x5,x6,x7,x8,x9,x10,x11,x12,x13,x14,x15⟩:=c16_of X2.out;obtain⟨o0,o1,o2,o3,o4,o5,o6,o7,o8,o9,o10,o11,o12,o13,o14⟩:=c15_of O2.out
   go_cut [80] (fun s80 wx=> ∃b:Bool,s80= .bool b∧Hid (b=true→0≤wh∧0<n6)∧wx=wr)
   case first=>
    by_cases h1:k=1
    ·have e1:(k==1)=true:=by simp[h1]
     clear h1;by_cases hw0:0≤wh
     ·have e5:decide (0≤wh)=true:=by simp;omega
      by_cases hl0:0<n6
      ·have e6:decide (0<(n6:Int))=true:=by simp;omega
       go_wp2_with fail
       go_meet;exact⟨true,rfl,fun _=>⟨by omega,by omega⟩,rfl⟩
      ·have e6:decide (0<(n6:Int))=false:=by simp;omega
       go_wp2_with fail
       go_meet;exact⟨false,rfl,fun h=>(by cases h),rfl⟩
     ·have e5:decide (0≤wh)=false:=by simp;omega
      go_wp2_with fail
      go_meet;exact⟨false,rfl,fun h=>(by cases h),rfl⟩
    ·have e1:(k==1)=false:=by simp[h1]
     clear h1;by_cases h2:k=2
     ·have e2:(k==2)=true:=by simp[h2]
      clear h2;by_cases hw0:0≤wh
      ·have e5:decide (0≤wh)=true:=by simp;omega
       by_cases hl0:0<n6
       ·have e6:decide (0<(n6:Int))=true:=by simp;omega
        go_wp2_with fail
        go_meet;exact⟨true,rfl,fun _=>⟨by omega,by omega⟩,rfl⟩
       ·have e6:decide (0<(n6:Int))=false:=by simp;omega
        go_wp2_with fail
        go_meet;exact⟨false,rfl,fun h=>(by cases h),rfl⟩
      ·have e5:decide (0≤wh)=false:=by simp;omega
       go_wp2_with fail
       go_meet;exact⟨false,rfl,fun h=>(by cases h),rfl⟩
     ·have e2:(k==2)=false:=by simp[h2]
      clear h2;by_cases h3:k=3
      ·have e3:(k==3)=true:=by simp[h3]
       clear h3;by_cases hw0:0≤wh
       ·have e5:decide (0≤wh)=true:=by simp;omega
        by_cases hl0:0<n6
        ·have e6:decide (0<(n6:Int))=true:=by simp;omega
         go_wp2_with fail
         go_meet;exact⟨true,rfl,fun _=>⟨by omega,by omega⟩,rfl⟩
        ·have e6:decide (0<(n6:Int))=false:=by simp;omega
         go_wp2_with fail
         go_meet;exact⟨false,rfl,fun h=>(by cases h),rfl⟩
       ·have e5:decide (0≤wh)=false:=by simp;omega
        go_wp2_with fail
        go_meet;exact⟨false,rfl,fun h=>(by cases h),rfl⟩
      ·have e3:(k==3)=false:=by simp[h3]
       clear h3
       go_wp2_with fail
       go_meet;exact⟨false,rfl,fun h=>(by cases h),rfl⟩
   case rest=>
    obtain⟨bb,rfl,hbb,rfl⟩:=hcut
    rename World=>wr
    cases bb with
    |true=>
     obtain⟨hw0,hl0⟩:=hbb.out rfl;obtain⟨r,hr1,hr2⟩:=rem_at wh n6 hw0 hl0;have hrl:r<L6.length:=by rw[←HN6.out];exact hr2
     obtain⟨b6,o6',hA6,hb6,hc6⟩:=Ris.at R2.out hrl;have d6:=hc6 r hrl;subst hA6;generalize gI L6 r=idv at d6;have hn0: ¬((n6:Int)=0):=by omega
     have ewr:IntKind.i64.wrap (r:Int)=(r:Int):=by rw[IntKind.wrap_i64];omega
     have f8:=O2.out.thaw 8;have O3:=κ (ξ (blk_st O2.out 8 (ι idv)));have Z3:Hid (Blk (wr.setCell (α gO 8) (ι idv)) gZ 51 (vP 0 0 0 false 0 0 0 0 0 0 0 0 false 0 0)):=far_st Z2.out hgz.out.2.2 _;have B3:Hid (Below w.heap.size w (wr.setCell (α gO 8) (ι idv))):=B2.out.setCell (p:=(α gO 8)) hgz.out.2.1 _;clear hc6
     go_upto_region 12 with fail
     clear o0 o1 o2 o3 o4 o5 o6 o7 o8 o9 o10 o11 o12 o13 o14 x0 x1 x2 x3 x4 x5 x6 x7 x8 x9 x10 x11 x12 x13 x14 x15 f8 d6 R2 O2 Z2 B2 X2;generalize wr.setCell (α gO 8) (ι idv)=w8 at O3 Z3 B3 ⊢;have Z2:=Z3;have B2:=B3;have f3:Blk (stN w8 gZ 0 [ι k,ι a,ι s,.bool x,ι p,ι q,ι n,ι t,ι idv,ι y,ι z,ι v,.bool sw,ι sx,ι ex]) gZ 51 (vP k a s x p q n t idv y z v sw sx ex):=stN_blk Z2.out rfl;have hfin:Below w.heap.size w (stN w8 gZ 0 [ι k,ι a,ι s,.bool x,ι p,ι q,ι n,ι t,ι idv,ι y,ι z,ι v,.bool sw,ι sx,ι ex]):=stN_below hgz.out.1 _ _ B2.out;obtain⟨o0,o1,o2,o3,o4,o5,o6,o7,o8,o9,o10,o11,o12,o13,o14⟩:=c15_of O3.out;obtain⟨z0,z1,z2,z3,z4,z5,z6,z7,z8,z9,z10,z11,z12,z13,z14⟩:=c15_of Z2.out;have ht:=fun j=>Z2.out.thaw j
     obtain⟨y0,y1,y2,y3,y4,y5,y6,y7,y8,y9,y10,y11,y12,y13,y14⟩:w8.frozen? ⟨gZ,0,none⟩=false∧w8.frozen? ⟨gZ,1,none⟩=false∧w8.frozen? ⟨gZ,2,none⟩=false∧w8.frozen? ⟨gZ,3,none⟩=false∧w8.frozen? ⟨gZ,4,none⟩=false∧w8.frozen? ⟨gZ,5,none⟩=false∧w8.frozen? ⟨gZ,6,none⟩=false∧w8.frozen? ⟨gZ,7,none⟩=false∧w8.frozen? ⟨gZ,8,none⟩=false∧w8.frozen? ⟨gZ,9,none⟩=false∧w8.frozen? ⟨gZ,10,none⟩=false∧w8.frozen? ⟨gZ,11,none⟩=false∧w8.frozen? ⟨gZ,12,none⟩=false∧w8.frozen? ⟨gZ,13,none⟩=false∧w8.frozen? ⟨gZ,14,none⟩=false:=⟨ht 0,ht 1,ht 2,ht 3,ht 4,ht 5,ht 6,ht 7,ht 8,ht 9,ht 10,ht 11,ht 12,ht 13,ht 14⟩;clear ht
     go_wp2_with fail
     obtain⟨d0,d1,d2,d3,d4,d5,d6,d7,d8,d9,d10,d11,d12,d13,d14⟩:=c15_of f3;simp only[stN,Nat.reduceAdd]at d0 d1 d2 d3 d4 d5 d6 d7 d8 d9 d10 d11 d12 d13 d14 hfin;exact bodyPost_ret (v:= .agg #[ι k,ι a,ι s,.bool x,ι p,ι q,ι n,ι t,ι idv,ι y,ι z,ι v,.bool sw,ι sx,ι ex]) (by simp[results,Tryz.results12,go_sem,d0,d1,d2,d3,d4,d5,d6,d7,d8,d9,d10,d11,d12,d13,d14]) rfl ⟨idv,rfl,hfin⟩
    |false=>
     clear o0 o1 o2 o3 o4 o5 o6 o7 o8 o9 o10 o11 o12 o13 o14 x0 x1 x2 x3 x4 x5 x6 x7 x8 x9 x10 x11 x12 x13 x14 x15 X2 R2;have f3:Blk (stN wr gZ 0 [ι k,ι a,ι s,.bool x,ι p,ι q,ι n,ι t,ι i,ι y,ι z,ι v,.bool sw,ι sx,ι ex]) gZ 51 (vP k a s x p q n t i y z v sw sx ex):=stN_blk Z2.out rfl;have hfin:Below w.heap.size w (stN wr gZ 0 [ι k,ι a,ι s,.bool x,ι p,ι q,ι n,ι t,ι i,ι y,ι z,ι v,.bool sw,ι sx,ι ex]):=stN_below hgz.out.1 _ _ B2.out;obtain⟨o0,o1,o2,o3,o4,o5,o6,o7,o8,o9,o10,o11,o12,o13,o14⟩:=c15_of O2.out;obtain⟨z0,z1,z2,z3,z4,z5,z6,z7,z8,z9,z10,z11,z12,z13,z14⟩:=c15_of Z2.out;have ht:=fun j=>Z2.out.thaw j
     obtain⟨y0,y1,y2,y3,y4,y5,y6,y7,y8,y9,y10,y11,y12,y13,y14⟩:wr.frozen? ⟨gZ,0,none⟩=false∧wr.frozen? ⟨gZ,1,none⟩=false∧wr.frozen? ⟨gZ,2,none⟩=false∧wr.frozen? ⟨gZ,3,none⟩=false∧wr.frozen? ⟨gZ,4,none⟩=false∧wr.frozen? ⟨gZ,5,none⟩=false∧wr.frozen? ⟨gZ,6,none⟩=false∧wr.frozen? ⟨gZ,7,none⟩=false∧wr.frozen? ⟨gZ,8,none⟩=false∧wr.frozen? ⟨gZ,9,none⟩=false∧wr.frozen? ⟨gZ,10,none⟩=false∧wr.frozen? ⟨gZ,11,none⟩=false∧wr.frozen? ⟨gZ,12,none⟩=false∧wr.frozen? ⟨gZ,13,none⟩=false∧wr.frozen? ⟨gZ,14,none⟩=false:=⟨ht 0,ht 1,ht 2,ht 3,ht 4,ht 5,ht 6,ht 7,ht 8,ht 9,ht 10,ht 11,ht 12,ht 13,ht 14⟩;clear ht
     go_wp2_with fail
     obtain⟨d0,d1,d2,d3,d4,d5,d6,d7,d8,d9,d10,d11,d12,d13,d14⟩:=c15_of f3;simp only[stN,Nat.reduceAdd]at d0 d1 d2 d3 d4 d5 d6 d7 d8 d9 d10 d11 d12 d13 d14 hfin;exact bodyPost_ret (v:= .agg #[ι k,ι a,ι s,.bool x,ι p,ι q,ι n,ι t,ι i,ι y,ι z,ι v,.bool sw,ι sx,ι ex]) (by simp[results,Tryz.results12,go_sem,d0,d1,d2,d3,d4,d5,d6,d7,d8,d9,d10,d11,d12,d13,d14]) rfl ⟨i,rfl,hfin⟩
end Lfx
end Go.Proofs.YtfbajlcljfjbkaaGreat
