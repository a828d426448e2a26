/- Texts side by side. -/
import Derived.Test.YtfbajlcljfjbkaaGreatUdai
import Derived.Test.YtfbajlcljfjbkaaGreatUdaz
set_option linter.unusedVariables false
set_option linter.unusedSimpArgs false
set_option maxRecDepth 100000
set_option maxHeartbeats 16000000
namespace Go.Proofs.YtfbajlcljfjbkaaGreat
open Kap Abv Go.ChangeShapes Go.WideShapes Go.ChangeAt Go.RowKit Mem Tre Ref3 Law3 Fix3 Cfg Crd CrdB CrdC Cpl Rr4 Bkp Bks Bcl Dlk Stk Apt Bko Bku Bka Bkc Bkq Rmp Lat Lax Mdq Sme
namespace Lsu
open Mde (blk_ne)
open Mdp hiding Mm Mm_below Mm_set Mm_off Mm_ep Mm_cr Mm_book Mm_lt
open Mdo (gB)
open Mdj (EnK)
def MadeIBF(xs:List Int)(b:Bool)(w:World)(e:Ending)(w':World):Prop:= ∃A c,e= .returned (.tuple #[.slice A xs.length c,.bool b])∧Ris w' w'.heap.size A xs∧(∀a,A=some a→w.heap.size≤a.block)∧Below w.heap.size w w'
variable {nd:List (Int×Int)} {bs:List Bk} {L ac:List Int} {g i j k nl s:Nat} {W:World}
theorem madeIBF_mk{xs ys:List Int}{b b':Bool}{A:Option Addr}{c:Nat}{w w':World}(h:ys=xs)(hb':b'=b)(hr:Ris w' w'.heap.size A xs)(hf: ∀a,A=some a→w.heap.size≤a.block)(hb:Below w.heap.size w w'):MadeIBF ys b' w (.returned (.tuple #[.slice A xs.length c,.bool b])) w':=by
 subst h;subst hb';exact⟨A,c,rfl,hr,hf,hb⟩
theorem rclimb_fresh(A:Option Addr)(c:Nat)(l:List (Int×Int))(n:Int)(w:World)(hl:Hid (Nds w w.heap.size A l))(hw:Hid (WfN l))(hmax:(l.length:Int)≤9223372036854775807)(hn:inI n):
  Calls Tryz.prog 95 #[.slice A l.length c,.int .i64 n] w (MadeIBF (pathF l 3 n) (fitF l 3 n) w):=by
 obtain⟨i0,hi,hz0,hz1,hz2⟩:=info_parts int_info
 go_enter Tryz.func95,Tryz.ntmps95
 go_wp2
 go_loopg [1,6] 3 (fun g s1 s6 w'=> ∃(m:Int) (xs:List Int) (A':Option Addr) (c':Nat),xs.length+g=3∧inI m∧s1= ι m∧s6= .slice A' xs.length c'∧Hid (xs++pathF l g m=pathF l 3 n)∧Hid (fitF l g m=fitF l 3 n)∧Hid (w'.ownsRow w.heap.size 3 1 (.slice A' xs.length c') xs.length (ints xs))∧Below w.heap.size w w')
 case atStart=>exact⟨n,[],none,0,by simp,hn,rfl,rfl,rfl,rfl,World.ownsRow_nil _ _ _ _,Below.refl _ _⟩
 case round=>
  obtain⟨m,xs,A',c',hg,hm,rfl,rfl,hres,hfit,hown,hbel⟩:=hrel;have hris:Hid (Ris wr wr.heap.size A' xs):=Rd.of_own hown.out;by_cases hin:inR l.length m=true
  ·obtain⟨hr0,hr1⟩:=inR_of hin;obtain⟨b,o,rfl,hb,hc⟩:=Nds.at hl.out (by omega);by_cases h3:xs.length<3
   ·obtain⟨g,rfl⟩: ∃g,gk=g+1:=⟨gk-1,by omega⟩;have hx3:decide (3≤(xs.length:Int))=false:=by simp;omega
    have hc0:=(hc m.toNat (by omega)).1;have hp1:=(hw.out m.toNat (by omega)).1
    have hres1:Hid ((xs++[m])++pathF l g (nP l m.toNat)=pathF l 3 n):=by
     show _=_;rw[←hres.out,pathF_in hin,List.append_assoc];rfl
    have hfit1:Hid (fitF l g (nP l m.toNat)=fitF l 3 n):=by
     show _=_;rw[←hfit.out,fitF_in hin]
    have HH:=κ hc;clear hc hin
    go_wp2_with (first
     |(at_builtin;refine wpList_app1 hown hbel rfl _ _ _ rfl i0 (.int .i64 0) 8 Tryz.underlying23 hi hz0 hz1 hz2 rfl (by decide) rfl rfl rfl [.int .i64 m] rfl rfl (by simp[Value.oneCell']) (by unfold maxLen;omega) (by omega) τ hbel.size hbel.size ?_;intro A1 c1 w1 hown1 hbel1 hsz1;have hc1:=(hbel1.cell (p:=⟨b,o+m.toNat*2,none⟩) hb).trans hc0))
    go_roundg g
    case measure=>omega
    case rel=>exact⟨nP l m.toNat,xs++[m],A1,c1,by simp;omega,hp1,rfl,by simp,hres1,hfit1,by rw[List.length_append,ints_snoc];exact hown1,hbel1⟩
   ·have hx3:decide (3≤(xs.length:Int))=true:=by simp;omega
    have hres1:Hid (pathF l 3 n=xs):=by
     show _=_;rw[←hres.out,show gk=0 by omega];simp[pathF]
    have hfit1:Hid (fitF l 3 n=false):=by
     show _=_;rw[←hfit.out,show gk=0 by omega];simp[fitF,hin]
    clear hc hin
    go_wp2_with fail
    go_ret2;exact madeIBF_mk hres1.out hfit1.out hris.out (own_fresh hown.out) hbel
  ·have hin:inR l.length m=false:=by simpa using hin
   have hres1:Hid (pathF l 3 n=xs):=by
    show _=_;rw[←hres.out,pathF_out hin];simp
   have hfit1:Hid (fitF l 3 n=true):=by
    show _=_;rw[←hfit.out,fitF_out hin]
   have hq:m<0∨l.length≤m:=by
    by_cases h0:m<0
    ·exact .inl h0
    ·right;by_cases h1:m<l.length
     ·have:=inR_t (n:=l.length) (k:=m) (by omega) h1;rw[this]at hin;cases hin
     ·omega
   clear hin;by_cases h0:m<0
   ·go_wp2_with fail
    go_ret2;exact madeIBF_mk hres1.out hfit1.out hris.out (own_fresh hown.out) hbel
   ·have h1:l.length≤m:=by omega
    have h2:0≤m:=by omega
    clear hq
    go_wp2_with fail
    go_ret2;exact madeIBF_mk hres1.out hfit1.out hris.out (own_fresh hown.out) hbel
theorem rpath_fresh(A:Option Addr)(c:Nat)(l:List (Int×Int))(n:Int)(w:World)(hl:Hid (Nds w w.heap.size A l))(hw:Hid (WfN l))(hmax:(l.length:Int)≤9223372036854775807)(hn:inI n):
  Calls Tryz.prog 56 #[.slice A l.length c,.int .i64 n] w (MadeIF (pathF l 3 n) w):=by
 go_enter Tryz.func56,Tryz.ntmps56
 go_wp2_with (go_at_call 95;refine(rclimb_fresh _ _ _ _ _ hl hw hmax hn).mono ?_;rintro e w1 ⟨A',c',rfl,hr,hf,hb⟩;have HR:=κ hr;have HF:=κ hf;clear hr hf)
 go_ret;exact madeIF_mk rfl HR.out HF.out hb
theorem path_le(l:List (Int×Int)): ∀(g:Nat) (n:Int),(pathF l g n).length≤g
 |0,_=>τ
 |g+1,n=>by
  rw[pathF]
  split
  ·have:=path_le l g (nP l n.toNat)
   simp only[List.length_cons]
   omega
  ·exact Nat.zero_le _
def sumI(nl:Nat)(nd:List (Int×Int))(ac:List Int)(bs:List Bk)(s i:Nat):List Int:=(List.range nl).map fun k=>sumB nd ac (bs.take s) k+sumE nd ac ((gB bs s).op.take i) k
theorem sumI_len:(sumI nl nd ac bs s i).length=nl:=by simp[sumI]
theorem gI_sumI(h:k<nl):gI (sumI nl nd ac bs s i) k=sumB nd ac (bs.take s) k+sumE nd ac ((gB bs s).op.take i) k:=by simp[sumI,gI,h]
theorem sumI_zero:sumI nl nd ac bs 0 0=zeros nl:=by
 refine ext_gI (by simp[sumI,zeros]) fun j hj=>?_
 rw[sumI_len]at hj;rw[gI_sumI hj];simp[sumB,sumE,gI,zeros,hj]
theorem sumB_snoc(h:s<bs.length):sumB nd ac (bs.take (s+1)) k=sumB nd ac (bs.take s) k+sumE nd ac (gB bs s).op k:=by
 unfold sumB;rw[List.take_add_one,List.getElem?_eq_getElem h,Option.toList_some,List.map_append,List.sum_append];simp[gB,h]
theorem sumI_next(h:s<bs.length):sumI nl nd ac bs s (gB bs s).op.length=sumI nl nd ac bs (s+1) 0:=by
 refine ext_gI (by simp[sumI]) fun j hj=>?_
 rw[sumI_len]at hj;rw[gI_sumI hj,gI_sumI hj,sumB_snoc h,List.take_length];simp[sumE]
theorem sumI_add(h:i<(gB bs s).op.length):
  Cpl.addF (sumI nl nd ac bs s i) (pathF nd 3 (gI ac (gE (gB bs s).op i).o.a.toNat)) ((gE (gB bs s).op i).o.p*(gE (gB bs s).op i).lf)=sumI nl nd ac bs s (i+1):=by
 refine ext_gI (by rw[addF_len,sumI_len,sumI_len]) fun j hj=>?_
 rw[addF_len,sumI_len]at hj;rw[gI_addF (by rw[sumI_len];exact hj),gI_sumI hj,gI_sumI hj,List.take_add_one,List.getElem?_eq_getElem h,Option.toList_some,sumE_app,sumE_cons];have e:(gB bs s).op[i]=gE (gB bs s).op i:=by simp[gE,h]
 rw[e];have e2:sumE nd ac [] j=0:=by simp[sumE]
 rw[e2];by_cases hm:(j:Int)∈pathF nd 3 (gI ac (gE (gB bs s).op i).o.a.toNat)
 ·have a1:ctr nd ac (gE (gB bs s).op i) j=(gE (gB bs s).op i).o.p*(gE (gB bs s).op i).lf:=if_pos hm;rw[if_pos hm,a1];omega
 ·have a1:ctr nd ac (gE (gB bs s).op i) j=0:=if_neg hm;rw[if_neg hm,a1];omega
theorem sumB_app(l r:List Bk):sumB nd ac (l++r) k=sumB nd ac l k+sumB nd ac r k:=by simp[sumB]
theorem sumI_le{al:Nat}(hs:s<bs.length)(hk:k<nl)(h: ∀b∈bs,∀e∈b.op,EnK al e):
  0≤gI (sumI nl nd ac bs s i) k∧gI (sumI nl nd ac bs s i) k≤sumB nd ac bs k:=by
 rw[gI_sumI hk];have hmem:=Mdq.gB_mem hs;have h1:=(sumB_ge (nd:=nd) (ac:=ac) (k:=k) (bs.take s) al (fun b hb=>h b (List.mem_of_mem_take hb))).1;have h2:=(sumE_nn (nd:=nd) (ac:=ac) (k:=k) ((gB bs s).op.take i) al (fun e he=>h _ hmem e (List.mem_of_mem_take he))).1;have h3:=(sumE_nn (nd:=nd) (ac:=ac) (k:=k) ((gB bs s).op.drop i) al (fun e he=>h _ hmem e (List.mem_of_mem_drop he))).1;have h4:=(sumB_ge (nd:=nd) (ac:=ac) (k:=k) (bs.drop (s+1)) al (fun b hb=>h b (List.mem_of_mem_drop hb))).1;have e1:sumB nd ac bs k=sumB nd ac (bs.take (s+1)) k+sumB nd ac (bs.drop (s+1)) k:=by rw[←sumB_app,List.take_append_drop]
 have e2:sumE nd ac (gB bs s).op k=sumE nd ac ((gB bs s).op.take i) k+sumE nd ac ((gB bs s).op.drop i) k:=by rw[←sumE_app,List.take_append_drop]
 rw[e1,sumB_snoc hs,e2];omega
theorem blk_ints{v:Int}(h:Blk W g 2 (ints L).toArray):Blk (W.setCell ⟨g,j,none⟩ (.int .i64 v)) g 2 (ints (L.set j v)).toArray:=by
 have h1:=blk_st h j (ι v);rw[List.setIfInBounds_toArray]at h1;rw[show ints (L.set j v)=(ints L).set j (.int .i64 v) from by simp[ints,List.map_set]];exact h1
theorem blk_gI(h:Blk W g 2 (ints L).toArray)(hj:j<L.length):W.cell? ⟨g,j,none⟩=some (.int .i64 (gI L j)):=by
 have h1:=h.cell j;rw[h1];simp[ints,gI,hj]
def MadeSu(L:List Int)(w:World)(e:Ending)(w':World):Prop:= ∃g n,e= .returned (.slice (some ⟨g,0,none⟩) n n)∧n=L.length∧Ris w' w'.heap.size (some ⟨g,0,none⟩) L∧Below w.heap.size w w'
theorem sums_any(base g:Nat)(qm:Mq)(w:World)(h:Hid (Rm base w g qm))(hw:Hid (WfN qm.nd))(hwa:Hid (WfI qm.ac))(hokt:Hid (Okt qm.nd))(hnl:qm.nl≤1000)(hal:qm.al≤1000)(hnb:qm.nb≤1000)(hol:Hid (∀k,k<qm.xs.length→(gX qm.xs k).b.op.length≤1000))(hen:Hid (∀b∈qm.xs.map Bx.b,∀e∈b.op,EnK qm.al e))(hsum:Hid (∀k,k<qm.nl→sumB qm.nd qm.ac (qm.xs.map Bx.b) k≤4611686018427387904)):
  Calls Tryz.prog 19 #[.pointer (some ⟨g,0,none⟩)] w (MadeSu ((List.range qm.nl).map fun k=>sumB qm.nd qm.ac (qm.xs.map Bx.b) k) w):=by
 obtain⟨i0,hi,hz0,hz1,hz2⟩:=info_parts i64_info;obtain⟨sh,wi,ra,ta,A,B,C,nl,al,sl,c,d,f,nd,ac,sy,Ab,nb,cb,xs,An,Au,n1,n2,d1,d2,cl,cu,ep,off⟩:=qm;simp only at hw hwa hokt hnl hal hnb hol hen hsum ⊢;have L1:=κ (ξ h.out.l1);have L2:=κ (ξ h.out.l2);have L4:=κ (ξ h.out.l4);have hmk:=fun(W:World)=>run_make (P:=Tryz.prog) W 78 2 i0 (ι 0) Tryz.underlying78 hi hz0 .i64 .i64 (nl:Int) (nl:Int) (by omega) (by omega) (by rw[hz2];omega) (by omega)
 simp only[Int.toNat_natCast,hz1,Nat.mul_one]at hmk;have b0:=κ (β w (.cells (madeCells (Value.int .i64 0).cells nl) 2))
 have s0:Hid (Blk (w.alloc (.cells (madeCells (Value.int .i64 0).cells nl) 2)) w.heap.size 2 (ints (sumI nl nd ac (xs.map Bx.b) 0 0)).toArray):=by
  rw[sumI_zero];have h1:=Blk.fresh w 2 (madeCells (Value.int .i64 0).cells nl);have h2:madeCells (Value.int .i64 0).cells nl=(ints (zeros nl)).toArray:=by rw[←made_zeros]
  rw[←h2];exact h1
 have kA:=h.out.blk.cell 4;have kC:=h.out.blk.cell 7;simp only[mqV,List.getElem?_toArray,List.getElem?_cons_succ,List.getElem?_cons_zero]at kA kC
 go_enter Tryz.func19,Tryz.ntmps19
 go_upto_region 2 with fail
 clear kA kC hmk;obtain⟨gS,hgS⟩:=ν w.heap.size;have HGS:Hid (w.heap.size≤gS):=by show _≤_;omega
 have b0:Hid (Below w.heap.size w (w.alloc (.cells (madeCells #[ι 0] nl) 2))):=b0.out;have s1:Hid (Blk (w.alloc (.cells (madeCells #[ι 0] nl) 2)) gS 2 (ints (sumI nl nd ac (xs.map Bx.b) 0 0)).toArray):=ζ hgS s0.out
 try simp only[←hgS]
 clear hgS s0;generalize w.alloc (.cells (madeCells #[ι 0] nl) 2)=w0 at b0 s1 ⊢
 go_wp2_with fail
 go_loopg [4] nb (fun g4 s4 w'=> ∃sx:Nat,sx+g4=nb∧s4= ι sx∧Hid (Blk w' gS 2 (ints (sumI nl nd ac (xs.map Bx.b) sx 0)).toArray)∧Hid (Below w.heap.size w w'))
 case atStart=>exact⟨0,by omega,rfl,s1,b0⟩
 case round=>
  clear s1 b0;obtain⟨sx,hsx,rfl,SB,BB⟩:=hrel;have M1:=κ (Rm_below h.out BB.out);have k7:wr.cell? (α g 7)=some (.slice Ab nb cb):=M1.out.blk.cell 7;by_cases hlt:sx<nb
  ·obtain⟨g1,rfl⟩: ∃g9,gk=g9+1:=⟨gk-1,by omega⟩;have t0:decide ((sx:Int)<(nb:Int))=true:=by simp;omega
   obtain⟨gb,hgb⟩:=own_at M1.out.row (by show 0<nb;omega);simp only at hgb;subst hgb;have hjx:sx<xs.length:=by rw[←L4.out];exact hlt
   have hjb:Hid (sx<(xs.map Bx.b).length):=by show _<_;rw[List.length_map];exact hjx
   have hgB:Hid (gB (xs.map Bx.b) sx=(gX xs sx).b):=by show _=_;simp[gB,gX,hjx]
   go_wp2_with fail
   clear k7 t0 M1;obtain⟨no,hno⟩:=ν ((gX xs sx).b.op.length);have HNO:=κ hno;have hno1:no≤1000:=by rw[hno];exact hol.out sx hjx
   clear hno
   go_loopg [5] no (fun g5 s5 w'=> ∃i:Nat,i+g5=no∧s5= ι i∧Hid (Blk w' gS 2 (ints (sumI nl nd ac (xs.map Bx.b) sx i)).toArray)∧Hid (Below w.heap.size w w'))
   case atStart=>exact⟨0,by omega,rfl,SB,BB⟩
   case round=>
    clear SB BB;obtain⟨i,hi9,rfl,SB,BB⟩:=hrel;have M1:=κ (Rm_below h.out BB.out);have k7:wr.cell? (α g 7)=some (.slice (some (α gb 0)) nb cb):=M1.out.blk.cell 7;have RM2:=own_room M1.out.row;have c3:=RM2.2.2.2.2.2 (sx*4+3) _ (by have:=bxs_get xs sx 3 hjx (by decide);exact this);have c3':wr.cell? (α gb (sx*4+3))=some (.slice (gX xs sx).C no (gX xs sx).d):=by rw[HNO.out];exact c3
    clear c3 RM2;have hlt':decide (sx<nb)=true:=by simp;omega
    by_cases hlm:i<no
    ·obtain⟨g8,rfl⟩: ∃g9,gk=g9+1:=⟨gk-1,by omega⟩;have t0:decide ((i:Int)<(no:Int))=true:=by simp;omega
     have t0':decide (i<no)=true:=by simp;omega
     have hmo:i<(gX xs sx).b.op.length:=by rw[←HNO.out];exact hlm
     obtain⟨b5,o5,hA5,hb5,hcc⟩:=Ens.at (M1.out.bm sx hjx).o (Nat.lt_of_le_of_lt (Nat.zero_le _) hmo);have dd:=hcc i hmo;clear hcc;rw[hA5]at c3';have ADD:=sumI_add (nl:=nl) (nd:=nd) (ac:=ac) (bs:=xs.map Bx.b) (s:=sx) (i:=i) (by rw[hgB.out];exact hmo);have LE1:Hid (∀k,k<nl→0≤gI (sumI nl nd ac (xs.map Bx.b) sx i) k∧gI (sumI nl nd ac (xs.map Bx.b) sx i) k≤sumB nd ac (xs.map Bx.b) k):=fun k hk=>sumI_le hjb.out hk hen.out
     have LE2:Hid (∀k,k<nl→gI (sumI nl nd ac (xs.map Bx.b) sx (i+1)) k≤sumB nd ac (xs.map Bx.b) k):=fun k hk=>(sumI_le hjb.out hk hen.out).2
     have EN:=hen.out (gX xs sx).b (List.mem_map.2 ⟨gX xs sx,by unfold gX;rw[List.getD_eq_getElem?_getD,List.getElem?_eq_getElem hjx];exact List.getElem_mem hjx,rfl⟩) _ (gE_mem hmo);rw[hgB.out]at ADD;generalize (gX xs sx).d=dq at c3';generalize gE (gX xs sx).b.op i=E at dd ADD EN;obtain⟨id,⟨a,s,x,p,q,n,t⟩,lf,st,ep⟩:=E;obtain⟨e0,e1,e2,e3,e4,e5,e6,e7,e8,e9,e10⟩:=dd;obtain⟨n1',n2',n3',n4',n5'⟩:=EN;simp only at e0 e1 e2 e3 e4 e5 e6 e7 e8 e9 e10 n1' n2' n3' n4' n5' ADD;have HADD:=κ ADD;clear ADD;obtain⟨aN,haN⟩: ∃y:Nat,a=y:=⟨a.toNat,by omega⟩;subst haN;have haL:aN<al:=by omega
     rw[Int.toNat_natCast]at HADD;have X0:=κ (Blk.fresh wr 122 (vE id (aN:Int) s x p q n t lf st ep));have V0:=β wr (.cells (vE id (aN:Int) s x p q n t lf st ep) 122);have SB5:=κ (Blk.below' SB.out V0);have BB5:=κ (CrdB.below_step BB.out V0);have hgx9:=κ BB.out.size;clear V0 M1 hmo
     go_upto_region 9 with fail
     clear k7 t0 t0' c3' e0 e1 e2 e3 e4 e5 e6 e7 e8 e9 e10 hlt' SB BB;generalize (wr.alloc (.cells (vE id (aN:Int) s x p q n t lf st ep) 122))=w5 at X0 SB5 BB5 ⊢;generalize wr.heap.size=gX at X0 hgx9 ⊢;have M5:=κ (Rm_below h.out BB5.out);obtain⟨b6,o6,hA6,hb6,hc6⟩:=Ris.at M5.out.ris (i:=aN) (by show aN<ac.length;rw[←L2.out];exact haL);have d6:=hc6 aN (by show aN<ac.length;rw[←L2.out];exact haL);simp only at hA6 d6;have hia:=hwa.out aN (by rw[←L2.out];exact haL);have PA:=fun W hn=>rpath_fresh A c nd (gI ac aN) W hn hw (by rw[←L1.out];omega) hia
     rw[←L1.out]at PA;have HAP:=κ (apart_path hokt.out L1.out (gI ac aN));generalize gI ac aN=acN at d6 PA HAP HADD;subst hA6;have hcell:Hid (∀W,Below w5.heap.size w5 W→W.cell? (α g 4)=some (.slice A nl c)∧W.cell? (α g 5)=some (.slice (some (α b6 o6)) al d)∧W.cell? (α gX 1)=some (ι (aN:Int))∧W.cell? (α b6 (o6+aN))=some (ι acN)):=fun W hb=>⟨(Rm_below M5.out hb).blk.cell 4,(Rm_below M5.out hb).blk.cell 5,(Blk.below' X0.out hb).cell 1,by rw[World.cell?_of_block (hb.block b6 hb6)];exact d6⟩
     let T115:World→Prop:=fun w'=>w'.cell? (α g 4)=some (.slice A nl c)∧w'.cell? (α g 5)=some (.slice (some (α b6 o6)) al d)∧w'.cell? (α gX 1)=some (ι (aN:Int))∧w'.cell? (α b6 (o6+aN))=some (ι acN)
     have HT:Hid (T115 (w5.drew)):=hcell.out _ (Below.drew ψ);have t3:decide (aN<al)=true:=by simp;omega
     refine Ω T115 [] ?_;refine jA 0 HT.out ?_;refine jA 1 HT.out ?_;refine jA 2 HT.out ?_;refine jA 3 HT.out ?_;refine jB 4 HT.out ?_;refine jA 5 HT.out ?_;refine jA 6 HT.out ?_;refine jA 7 HT.out ?_;refine jA 8 HT.out ?_;refine jB 9 HT.out ?_;refine jA 10 HT.out ?_;refine jA 11 HT.out ?_;refine jB 12 HT.out ?_;refine jA 13 HT.out ?_;refine jB 14 HT.out ?_;refine jN 15 fun K' hK=>?_
     go_simp;refine(PA _ (κ (Rm_below M5.out (Below.drew ψ)).nds)).mono ?_;rintro e w6 ⟨Ap,cp,rfl,hr6,hf6,hb6'⟩;have B6:=κ (CrdB.below_step (Below.drew ψ) hb6');have HT6:=κ (hcell.out _ B6.out);have SB6:=κ (Blk.below' SB5.out B6.out);have X6:=κ (Blk.below' X0.out B6.out);have BB6:=κ (CrdB.below_step BB5.out B6.out);have HR6:=κ hr6;have HF6:Hid (∀a,Ap=some a→a.block≠gS):=fun a ha=>by have h1:=hf6 a ha;have h2:gS<w5.heap.size:=SB5.out.lt;have h3:w5.drew.heap.size=w5.heap.size:=rfl;omega
     clear hr6 hf6 hb6';have hp3:=path_le nd 3 acN;generalize pathF nd 3 acN=pth at HR6 HAP HADD hp3 ⊢;obtain⟨np,hnp⟩:=ν pth.length;have HNP:=κ hnp;rw[←hnp]at hp3 ⊢;clear hnp
     go_wp2_with fail
     refine hK.out _ _ HT6.out ?_;clear hK K';refine jP ?_;refine jA 16 HT6.out ?_;refine Δ ?_;clear HT HT6 hcell M5 d6 X0 SB5 BB5 B6 PA t3
     go_wp2_with fail
     go_loopg [8] np (fun g9 s8 w'=> ∃kk:Nat,kk+g9=np∧s8= ι kk∧Hid (Blk w' gS 2 (ints (Cpl.addF (sumI nl nd ac (xs.map Bx.b) sx i) (pth.take kk) (p*lf))).toArray)∧Hid (Blk w' gX 122 (vE id (aN:Int) s x p q n t lf st ep))∧Hid (Ris w' w'.heap.size Ap pth)∧Hid (Below w.heap.size w w'))
     case atStart=>exact⟨0,by omega,rfl,by rw[List.take_zero,addF_nil];exact SB6,X6,HR6,BB6⟩
     case round=>
      clear SB6 X6 HR6 BB6;obtain⟨kk,hkk,rfl,SB,XB,RB,BB⟩:=hrel;by_cases hlk:kk<np
      ·obtain⟨g10,rfl⟩: ∃g9,gk=g9+1:=⟨gk-1,by omega⟩;have t0:decide ((kk:Int)<(np:Int))=true:=by simp;omega
       have t1:decide (kk<np)=true:=by simp;omega
       have hkp:kk<pth.length:=by rw[←HNP.out];exact hlk
       have hap:=HAP.out.1 kk hkp;obtain⟨kn,hkn⟩: ∃y:Nat,gI pth kk=y:=⟨(gI pth kk).toNat,by omega⟩;have hknl:kn<nl:=by omega
       have t2:decide (kn<nl)=true:=by simp;omega
       obtain⟨pb,po,hAp,hpb,hcp⟩:=Ris.at RB.out hkp;have dp:=hcp kk hkp;rw[hkn]at dp;have hlen:kn<(Cpl.addF (sumI nl nd ac (xs.map Bx.b) sx i) (pth.take kk) (p*lf)).length:=by rw[addF_len,sumI_len];exact hknl
       have hap2:Apart (sumI nl nd ac (xs.map Bx.b) sx i).length pth:=by rw[sumI_len];exact HAP.out
       have hat:=addF_at (x:=p*lf) hap2 hkp;have hst:=addF_step (x:=p*lf) hap2 hkp;rw[hkn,Int.toNat_natCast]at hat hst;have dS:=blk_gI SB.out hlen;rw[hat]at dS;have hle:=LE1.out kn hknl;have hle2:=LE2.out kn hknl;have hsm:=hsum.out kn hknl
       have hcur:gI (sumI nl nd ac (xs.map Bx.b) sx i) kn+p*lf≤4611686018427387904:=by
        rw[←HADD.out,gI_addF (by rw[sumI_len];exact hknl),if_pos]at hle2
        ·omega
        ·rw[←hkn];obtain hm:=(mem_take (p:=pth) (k:=pth.length) (x:=gI pth kk)).2 ⟨kk,hkp,hkp,rfl⟩;rwa[List.take_length]at hm
       have hpl:0≤p*lf:=Int.mul_nonneg (by omega) (by omega);generalize hcg:gI (sumI nl nd ac (xs.map Bx.b) sx i) kn=cur at dS hst hle hcur;have e1:IntKind.i64.wrap (p*lf)=p*lf:=by rw[IntKind.wrap_i64];omega
       have e2:IntKind.i64.wrap (cur+p*lf)=cur+p*lf:=by rw[IntKind.wrap_i64];omega
       have x4:=XB.out.cell 4;have x8:=XB.out.cell 8;let T208:World→Prop:=fun w'=>w'.cell? (α pb (po+kk))=some (ι (kn:Int))∧w'.cell? (α gS kn)=some (ι cur)∧w'.cell? (α gX 4)=some (ι p)∧w'.cell? (α gX 8)=some (ι lf)
       have HT:Hid (T208 (wr.drew)):=⟨by rw[hAp]at *;exact dp,dS,x4,x8⟩;have fS:=SB.out.thaw kn;have S9:Hid (Blk (wr.setCell (α gS kn) (ι (cur+p*lf))) gS 2 (ints (Cpl.addF (sumI nl nd ac (xs.map Bx.b) sx i) (pth.take (kk+1)) (p*lf))).toArray):=by rw[←hst];exact blk_ints SB.out
       have X9:Hid (Blk (wr.setCell (α gS kn) (ι (cur+p*lf))) gX 122 (vE id (aN:Int) s x p q n t lf st ep)):=far_st XB.out (blk_ne XB.out SB.out (by decide)) _;have R9:Hid (Ris (wr.setCell (α gS kn) (ι (cur+p*lf))) (wr.setCell (α gS kn) (ι (cur+p*lf))).heap.size Ap pth):=Rd.keep' RB.out (Nat.lt_succ_self _) HF6.out _;have B9:Hid (Below w.heap.size w (wr.setCell (α gS kn) (ι (cur+p*lf))).drew):=Below.drew (BB.out.setCell (p:=(α gS kn)) HGS.out _);subst hAp;clear hcp hst hat x4 x8 hcg hap2 hlen
       go_upto_region 13 with fail
       clear t0;refine Ω T208 [20] ?_;refine jA 0 HT.out ?_;refine jA 1 HT.out ?_;refine jA 2 HT.out ?_;refine jA 3 HT.out ?_;refine jB 4 HT.out ?_;refine jA 5 HT.out ?_;refine jA 6 HT.out ?_;refine jA 7 HT.out ?_;refine jA 8 HT.out ?_;refine jB 9 HT.out ?_;refine jA 10 HT.out ?_;refine jB 11 HT.out ?_;refine jA 12 HT.out ?_;refine jA 13 HT.out ?_;refine jB 14 HT.out ?_;refine jA 15 HT.out ?_;refine jB 16 HT.out ?_;refine jA 17 HT.out ?_;refine jA 18 HT.out ?_;refine jA 19 HT.out ?_;refine jV 20 fun K' hK=>?_
       go_simp;refine hK.out _ _ ?_;clear hK K';refine jP ?_;refine Δ ?_
       go_wp2_with fail
       go_roundg g10
       case measure=>omega
       case rel=>exact⟨kk+1,by omega,by go_num,S9,X9,R9,B9⟩
      ·have t0:decide ((kk:Int)<(np:Int))=false:=by simp;omega
       have hkn:kk=pth.length:=by rw[←HNP.out];omega
       have S9:Hid (Blk wr gS 2 (ints (sumI nl nd ac (xs.map Bx.b) sx (i+1))).toArray):=by rw[←HADD.out,←addF_full,←hkn];exact SB.out
       go_wp2_with fail
       go_roundg g8
       case measure=>omega
       case rel=>exact⟨i+1,by omega,by go_num,S9,BB⟩
    ·have t0:decide ((i:Int)<(no:Int))=false:=by simp;omega
     have hin:i=(gB (xs.map Bx.b) sx).op.length:=by rw[hgB.out,←HNO.out];omega
     have S9:Hid (Blk wr gS 2 (ints (sumI nl nd ac (xs.map Bx.b) (sx+1) 0)).toArray):=by rw[←sumI_next hjb.out,←hin];exact SB.out
     go_wp2_with fail
     go_roundg g1
     case measure=>omega
     case rel=>exact⟨sx+1,by omega,by go_num,S9,BB⟩
  ·have t0:decide ((sx:Int)<(nb:Int))=false:=by simp;omega
   have hfin:Hid (MadeSu ((List.range nl).map fun k=>sumB nd ac (xs.map Bx.b) k) w (.returned (.slice (some (α gS 0)) nl nl)) wr):=by
    have hsn:sx=(xs.map Bx.b).length:=by rw[List.length_map,←L4.out];omega
    have e9:sumI nl nd ac (xs.map Bx.b) sx 0=(List.range nl).map fun k=>sumB nd ac (xs.map Bx.b) k:=by
     unfold sumI;refine List.map_congr_left (fun k _=>?_);rw[hsn,List.take_length];simp[sumE]
    refine⟨gS,nl,rfl,by simp,?_,BB.out⟩;rw[←e9];exact SB.out.rd' (by simp)
   go_wp2_with fail
   go_ret;exact hfin.out
end Lsu
end Go.Proofs.YtfbajlcljfjbkaaGreat
