/- Texts side by side. -/
import Derived.Test.YtcccdikhfgpamaaGreatUfbw
import Derived.Test.YtcccdikhfgpamaaGreatUfbx
set_option linter.unusedVariables false
set_option linter.unusedSimpArgs false
set_option maxRecDepth 100000
set_option maxHeartbeats 16000000
namespace Go.Proofs.YtcccdikhfgpamaaGreat
open Kap Go.ChangeShapes Go.WideShapes Go.ChangeAt Go.RowKit Go.Lib Mem Tre Ref3 Law3 Bkp Stk Apt Wpl Hpa
namespace Hss
open Bko Rr4 Mdb Rmp Hfp Hgr
open Mdz (Mz FarE)
def setL(xs:List Value):Nat→List Value→List Value
 |_,[]=>xs
 |o,v :: r=>setL (xs.set o v) (o+1) r
theorem setL_get: ∀(vs:List Value) (o:Nat) (xs:List Value) (k:Nat),o+vs.length≤xs.length→(setL xs o vs)[k]? =if o≤k∧k<o+vs.length then vs[k-o]? else xs[k]?
 |[],o,xs,k,_=>by
  show xs[k]? =_
  rw[if_neg (by simp only[List.length_nil];omega)]
 |v :: r,o,xs,k,h=>by
  show(setL (xs.set o v) (o+1) r)[k]? =_
  have hl:o+(r.length+1)≤xs.length:=by simpa using h
  rw[setL_get r (o+1) (xs.set o v) k (by simp;omega),List.getElem?_set]
  by_cases e:o=k
  ·subst e
   rw[if_neg (by omega),if_pos rfl,if_pos (by omega),if_pos (by simp only[List.length_cons];omega)]
   simp
  ·rw[if_neg e]
   by_cases e2:o+1≤k∧k<o+1+r.length
   ·rw[if_pos e2,if_pos (by simp only[List.length_cons];omega),show k-o=(k-(o+1))+1 by omega]
    simp
   ·rw[if_neg e2,if_neg (by simp only[List.length_cons];omega)]
theorem hrow_ext{E:List He}{xs:List Value}(hl:xs.length=E.length*21)(h: ∀a b,a<E.length→b<21→xs[a*21+b]? =(hv (gH E a))[b]?):xs=hrow E:=by
 refine List.ext_getElem? fun k=>?_
 by_cases hk:k<E.length*21
 ·have e:k=k / 21*21+k%21:=by omega
  rw[e,h _ _ (by omega) (by omega),hrow_get E _ _ (by omega) (by omega)]
 ·rw[List.getElem?_eq_none (by omega),List.getElem?_eq_none (by rw[hrow_len];omega)]
theorem hv_len(x:He):(hv x).length=21:=rfl
theorem setL_len: ∀(vs:List Value) (o:Nat) (xs:List Value),(setL xs o vs).length=xs.length
 |[],_,_=>rfl
 |v :: r,o,xs=>by show(setL (xs.set o v) (o+1) r).length=_;rw[setL_len,List.length_set]
theorem hrow_put{E:List He}{i:Nat}(hi:i<E.length)(x:He):setL (hrow E) (i*21) (hv x)=hrow (E.set i x):=by
 refine hrow_ext (by rw[setL_len,hrow_len,List.length_set]) fun a b d f=>?_
 rw[List.length_set]at d;rw[setL_get _ _ _ _ (by rw[hrow_len,hv_len];omega),gH_set hi,hv_len];by_cases e:a=i
 ·subst e;rw[if_pos (by omega),if_pos rfl,show a*21+b-a*21=b by omega]
 ·rw[if_neg (by omega),if_neg e,hrow_get E a b d f]
theorem hrow_set1{E:List He}{i j:Nat}(hi:i<E.length)(hj:j<21){u:Value}{x:He}(hx:hv x=(hv (gH E i)).set j u):(hrow E).set (i*21+j) u=hrow (E.set i x):=by
 refine hrow_ext (by rw[List.length_set,hrow_len,List.length_set]) fun a b d f=>?_
 rw[List.length_set]at d;rw[List.getElem?_set,gH_set hi];by_cases e:a=i
 ·subst e;rw[if_pos rfl,hx,List.getElem?_set];by_cases e2:j=b
  ·subst e2;rw[if_pos rfl,if_pos rfl,if_pos (by rw[hrow_len];omega),if_pos (by rw[hv_len];omega)]
  ·rw[if_neg (by omega),if_neg e2,hrow_get E a b d f]
 ·rw[if_neg (by omega),if_neg e,hrow_get E a b d f]
section
variable {base g n c s:Nat} {te:TypeId}
theorem own_cells: ∀(vs:List Value) (o:Nat) (w:World) (xs:List Value),w.ownsRow base te s (.slice (some ⟨g,0,none⟩) n c) n xs→(w.setCells g o vs).ownsRow base te s (.slice (some ⟨g,0,none⟩) n c) n (setL xs o vs)∧w.grownBy (w.setCells g o vs) (some g)
 |[],_,w,_,h=>⟨h,grown_refl _ _⟩
 |v :: r,o,w,xs,h=>by
  obtain⟨h1,h2⟩:=World.ownsRow.stored h o v
  obtain⟨b,d⟩:=own_cells r (o+1) _ _ h1
  exact⟨b,Bku.grown_trans h2 d⟩
variable {w:World} {E:List He} {i:Nat}
theorem own_put(h:w.ownsRow base te 21 (.slice (some ⟨g,0,none⟩) n c) n (hrow E))(hi:i<E.length)(x:He):(w.setCells g (i*21) (hv x)).ownsRow base te 21 (.slice (some ⟨g,0,none⟩) n c) n (hrow (E.set i x))∧w.grownBy (w.setCells g (i*21) (hv x)) (some g):=by
 have b:=own_cells (hv x) (i*21) w _ h;rw[hrow_put hi]at b;exact b
theorem there_of(h:w.ownsRow base te 21 (.slice (some ⟨g,0,none⟩) n c) n (hrow E))(hi:i<E.length):w.there g (i*21) 21:=fun j b=>by
 have d:n*21=E.length*21:=by have:=h.1;rw[hrow_len]at this;omega
 refine⟨?_,World.ownsRow.frozenAt h _⟩
 rw[World.ownsRow.cellAt h _ (by omega),hrow_get E i j hi b,List.getElem?_eq_getElem (by rw[hv_len];omega)]
 rfl
theorem put21(h:w.ownsRow base 68 21 (.slice (some ⟨g,0,none⟩) n c) n (hrow E))(hi:i<E.length)(x:He):(Instr.storeAt 68 (.pointer (some ⟨g,i*21,none⟩)) (.agg (hA x))).run Tryz.prog w= .ok () (w.setCells g (i*21) (hv x)):=
 run_storeAt_mid w g (i*21) 68 (hA x) (there_of h hi) (by kernel_rfl) (by simp[Value.oneCell'])
end
section
variable {P:Program} {w w':World} {ops:Array Oper} {o:Oper} {a:Act} {Q:Exit→Act→World→Prop}
theorem ex_ld{p:Operand}{t:TypeId}(hop:o.op=Op.load t p){q v:Value}(hp:a.eval p=q)(hr:(Instr.loadAt t q).run P w= .ok v w):(execOp a.eval o).run P w= .ok (.value v) w:=by
 unfold execOp;simp only[hop,hp,Sem.run_bind,Sem.run_pure,Result.andThen_ok,hr]
theorem ex_st{K:Act→World→Prop}{E:Prop}{p x:Operand}{t:TypeId}(hw:Region.wanted o (yielded ops a.tmps)=true)(hop:o.op=Op.store t p x){q v:Value}(hp:a.eval p=q)(hx:a.eval x=v)(hr:(Instr.storeAt t q v).run P w= .ok () w')(k:K (a.put o.dst undef) w'):if Region.wanted o (yielded ops a.tmps)=true then Oper.wp P o a w K Q else E:=by
 rw[if_pos hw];unfold Oper.wp execOp;simp only[hop,hp,hx,Sem.run_bind,Sem.run_pure,Result.andThen_ok,hr];exact k
end
theorem sl_front{A:Option Addr}{b o:Nat}(hA:A=some ⟨b,o,none⟩)(n d i:Nat)(h:i≤d)(W:World):(Instr.slice 28 (.slice A n d) none (some (.int .i64 (i:Int))) none).run Tryz.prog W= .ok (.slice A i d) W:=by
 subst hA;rw[run_slice_h W 28 (some ⟨b,o,none⟩) n d (by kernel_rfl) .i64 (i:Int) (by omega) (by omega)];rw[show(sizeOf (Tryz.prog.elem 28)).run Tryz.prog W= .ok 2 W from by kernel_rfl];simp[Result.andThen,sliced,Addr.add]
theorem sl_back{A:Option Addr}{b o:Nat}(hA:A=some ⟨b,o,none⟩)(n d i:Nat)(h:i≤n)(_hd:n≤d): ∃X,(∀W:World,(Instr.slice 28 (.slice A n d) (some (.int .i64 (i:Int))) none none).run Tryz.prog W= .ok (.slice X (n-i) (d-i)) W)∧(i<d→X=some ⟨b,o+i*2,none⟩):=by
 subst hA;refine⟨if d=i then some ⟨b,o,none⟩ else some ⟨b,o+i*2,none⟩,fun W=>?_,fun f=>by rw[if_neg (by omega)]⟩;rw[run_slice_l W 28 (some ⟨b,o,none⟩) n d (by kernel_rfl) .i64 (i:Int) (by omega) (by omega)];rw[show(sizeOf (Tryz.prog.elem 28)).run Tryz.prog W= .ok 2 W from by kernel_rfl];simp[Result.andThen,sliced,Addr.add];by_cases e:d=i
 ·simp[e]
 ·simp only[if_neg e]
  congr 1
  by_cases h0:i*2=0
  ·rw[if_pos h0,h0];rfl
  ·rw[if_neg h0]
theorem nds_ap(x y:List (Int×Int)):nds (x++y)=nds x++nds y:=by simp[nds]
theorem nds_cut{w:World}{A:Option Addr}{B b o k:Nat}{l:List (Int×Int)}(hA:A=some ⟨b,o,none⟩)(h:Nds w B A l)(hk:k≤l.length):Nds w B A (l.take k)∧Nds w B (some ⟨b,o+k*2,none⟩) (l.drop k):=by
 subst hA;have e:nds l=nds (l.take k)++nds (l.drop k):=by rw[←nds_ap,List.take_append_drop]
 unfold Nds at h ⊢;rw[e]at h;refine⟨Rbd.front h,?_⟩;have d:=Rbd.back h;rwa[nds_len,List.length_take,show min k l.length=k by omega]at d
theorem nds_put{l:List (Int×Int)}{k:Nat}(hk:k<l.length)(y:Int):(nds l).set (k*2) (.int .i64 y)=nds (l.set k (y,nC l k)):=by
 induction l generalizing k with
 |nil=>simp at hk
 |cons p l ih=>
  cases k with
  |zero=>simp[nds,ndV,nC]
  |succ k=>
   have h:=ih (k:=k) (by simpa using hk);rw[show(k+1)*2=k*2+1+1 by omega];simpa[nds,ndV,nC] using h
theorem swp_step{E:List He}{j:Nat}(h:j+1<E.length):((E.set j (gH E (j+1))).set (j+1) (gH E j)).take (j+2)++swp (((E.set j (gH E (j+1))).set (j+1) (gH E j)).drop (j+2))=E.take j++swp (E.drop j):=by
 have d:E=E.take j++gH E j :: gH E (j+1) :: E.drop (j+2):=by
  rw[Hqp.gH_get (show j<E.length by omega),Hqp.gH_get h,←List.drop_eq_getElem_cons,←List.drop_eq_getElem_cons,List.take_append_drop]
 have e:(E.take j).length=j:=by rw[List.length_take];omega
 generalize gH E j=a at d ⊢;generalize gH E (j+1)=b at d ⊢;generalize E.take j=p at d e ⊢;generalize E.drop (j+2)=t at d;subst d;subst e;rw[List.drop_left];simp[swp,List.take_append,List.drop_append];rw[List.take_of_length_le (by omega),List.drop_eq_nil_of_le (by omega)]
 rfl
theorem swp_done{E:List He}{j:Nat}(h:E.length≤j+1):E.take j++swp (E.drop j)=E:=by
 have b:(E.drop j).length≤1:=by rw[List.length_drop];omega
 have d:swp (E.drop j)=E.drop j:=by
  match E.drop j,b with
  |[],_=>rfl
  |[_],_=>rfl
  |_ :: _ :: _,h=>exact absurd h (by simp)
 rw[d,List.take_append_drop]
end Hss
namespace Hcc
open Abv Fix3 Cfg Crd CrdB CrdC St7 Bks Hpl Hws Hrr Hod Hti Hri Hbg Tl5 Mdp Mde Mdd
open Hck (WfO WfE chkF MadeI ordF_len)
open Mds (Pm plO)
open Mdq (Vp Vp_do gX_mem)
open Mdg (bgnP)
theorem hchk_any(n:Int)(E:List He)(sN:Nat)(wi ra ta:Int)(A B C Al:Option Addr)(nl al sl c d f cL:Nat)(nd:List (Int×Int))(ac:List Int)(sy:List (Int×Int×Int×Nat))(w:World)(L1:Hid (nl=nd.length))(L2:Hid (al=ac.length))(L3:Hid (sl=sy.length))
  (hn:Hid (Nds w w.heap.size A nd))(ha:Hid (Ris w w.heap.size B ac))(hs:Hid (Smb w w.heap.size C sy))(hwn:Hid (WfN nd))(m1:nl≤1000)(m2:al≤1000)(m3:sl≤1000)(hcf:Hid (cfgF (sN:Int) wi ra ta nd ac sy=0))(V0:Hid (Vp 0 (bgnP (sN:Int) wi ra ta nd ac sy)))
  (hl:Hid (Rd w w.heap.size Al (hrow E)))(hH:Hid (WfH E))(hE:Hid (WfE E))(hm:E.length≤800):
  Calls Tryz.prog 11 #[.agg (vC (sN:Int) wi ra ta A nl c B al d C sl f),.int .i64 n,.slice Al E.length cL] w (MadeI (chkF n E (bgnP (sN:Int) wi ra ta nd ac sy)) w):=by
 have Q:=κ (β w (.cells (vC (sN:Int) wi ra ta A nl c B al d C sl f) 43));have K0:=κ (Blk.fresh w 43 (vC (sN:Int) wi ra ta A nl c B al d C sl f))
 go_enter Tryz.func11,Tryz.ntmps11
 go_upto_region 1 with fail
 generalize w.alloc (.cells (vC (sN:Int) wi ra ta A nl c B al d C sl f) 43)=w0 at Q K0 ⊢;generalize w.heap.size=gB at K0 ⊢;obtain⟨k0,k1,k2,k3,k4,k5,k6⟩:=c7_of K0.o
 go_wp2_with fail
 refine(hbegin_any n E sN wi ra ta A B C Al nl al sl c d f cL nd ac sy w0 L1 L2 L3 (θ hn.o Q.o) (η ha.o Q.o) (κ (Rd.below' hs.o Q.o Q.o.size)) hwn m1 m2 m3 hcf (κ (Rd.below' hl.o Q.o Q.o.size)) hH hm).mono ?_;rintro e w1 ⟨ae,aa,G⟩;have S:=κ (bst Q.o ae);have af:w.heap.size≤w0.heap.size:=Q.o.size;clear k0 k1 k2 k3 k4 k5 k6 K0 Q;by_cases hR:rightF n E=true
 ·have hF:Hid (chkF n E (bgnP (sN:Int) wi ra ta nd ac sy)=chkL E (ordF E) (bgnP (sN:Int) wi ra ta nd ac sy)):=κ (by unfold chkF;rw[if_pos hR]);obtain⟨gr,q,H,rfl,hM,hP,hB⟩:=G hR;have HR:=κ hR;have V:=κ hM;have P3:=κ hP;have av:Hid (w.heap.size≤H):=κ (by omega);clear hR aa G ae hM hP hB af
  go_wp2_with fail
  refine(Hmk.marked_any E Al cL w1 (κ (Rd.below' hl.o S.o S.o.size)) HR.o (by omega)).mono ?_;rintro e w4 ⟨Ao,co,rfl,ag,ab,ah⟩;have OP:Hid (Ris w4 w4.heap.size Ao (nI (ordF E))):=κ ag;have U4:=κ (bst S.o ab);have M4:=κ (Mm_below V.o ab);obtain⟨vm,vo⟩:=Mdq.Vq_of V.o (by rw[P3.o];exact V0.o);have aw:0<q.nb:=by have h1:=vm.nb;have h2:=vm.sh;omega
  clear vm vo
  have FR:Hid (Far gr q.Ab Ao (ints (nI (ordF E)))):=κ (.inr fun a ha=>by
   have h1:=ah a ha
   have h2:=V.o.blk.lt
   refine⟨by omega,fun b hb=>?_⟩
   have h3:=(World.ownsRow.lt V.o.row b.block (by rw[hb];rfl)).2
   omega)
  clear aw ah ab ag V S;have ai:Hid ((ordF E).length≤800):=κ (by have h:=ordF_len E;omega);have aj:Hid (∀a∈ordF E,a<E.length):=κ (fun a ha=>ordN_lt ha);have W:Hid (chkF n E (bgnP (sN:Int) wi ra ta nd ac sy)=chkL E ((ordF E).drop 0) (plO q)):=κ (by rw[hF.o,P3.o];rfl);rw[←P3.o]at V0;clear hF P3;obtain⟨j,I⟩: ∃r,r=chkF n E (bgnP (sN:Int) wi ra ta nd ac sy):=⟨_,rfl⟩;rw[←I]at W;have RE:=κ I;clear I;generalize ordF E=L at OP FR ai aj W ⊢;have QA:Hid (q.Ab=q.Ab):=κ rfl;generalize ak:q.Ab=Ab at FR QA;have am:Hid (q.Ab=Ab):=κ ak;clear ak QA
  go_wp2_with fail
  go_loopg [26] L.length (fun g9 s9 w'=> ∃(i:Nat) (J:Mq),i+g9=L.length∧s9= ι i∧Hid (j=chkL E (L.drop i) (plO J))∧Hid (Vp i (plO J))∧Hid (Mm H w' gr J)∧Hid (J.Ab=Ab)∧Hid (Ris w' w'.heap.size Ao (nI L))∧Hid (Below w.heap.size w w'))
  case atStart=>exact⟨0,q,by omega,rfl,W,V0,M4,am,OP,U4⟩
  case round=>
   clear W V0 M4 am OP U4;obtain⟨i,J,hi,rfl,HC,VP,MK,QA,OP,U⟩:=hrel
   rename World=>wr
   by_cases hlt:i<L.length
   ·obtain⟨g,rfl⟩: ∃g,gk=g+1:=⟨gk-1,by omega⟩;obtain⟨x,hx⟩: ∃x,x=L[i]:=⟨_,rfl⟩;have ad:x<E.length:=by rw[hx];exact aj.o _ (List.getElem_mem hlt)
    have HD:Hid (L.drop i=x :: L.drop (i+1)):=κ (by rw[hx];exact List.drop_eq_getElem_cons hlt);obtain⟨b,o,rfl,hb,hc⟩:=Ris.at (i:=i) OP.o (by simpa[nI] using hlt);have ci:=hc i (by simpa[nI] using hlt);have hg:gI (nI L) i=(x:Int):=by rw[hx];simp[gI,nI,hlt]
    rw[hg]at ci;have HG:=κ hg;have an:Hid (i<(nI L).length):=κ (by simpa[nI] using hlt);clear hc hb hg hx;obtain⟨b2,o2,rfl,ax,ao⟩:=hes_at (Rd.below' hl.o U.o U.o.size) (by omega);have f:=ao x ad;clear ao ax;have HX:=κ ad;have ld:=ld21 f;have Z:decide ((i:Int)<(L.length:Int))=true:=by simp;omega
    go_upto_region 8 with(first|(refine wpList_ld _ _ rfl rfl rfl ld ?_)|(refine wpList_st _ _ _ rfl rfl rfl rfl (st21 _ _) ?_))
    clear ld f Z;have K:=κ (Blk.fresh wr 81 (hA (gH E x)));have l:=β wr (.cells (hA (gH E x)) 81);have S:=κ (bst U.o l);have O1:Hid (Ris (wr.alloc (.cells (hA (gH E x)) 81)) (wr.alloc (.cells (hA (gH E x)) 81)).heap.size (some ⟨b,o,none⟩) (nI L)):=κ (Rd.below' OP.o l l.size);have M1:=κ (Mm_below MK.o l);have SV:=κ (Mdq.Vq_of MK.o VP.o);have O:=κ (hE.o x HX.o);have HS:Hid (j=if (gH E x).e≠0∧ ¬((doF (plO J) (opH (gH E x))).2.1=(gH E x).c∧(doF (plO J) (opH (gH E x))).2.2.1=(gH E x).d) then (x:Int) else chkL E (L.drop (i+1)) (doF (plO J) (opH (gH E x))).1):=κ (by rw[HC.o,HD.o];rfl);have Y:=κ (Vp_do VP.o (opH (gH E x)) O.o.t O.o.p O.o.q);have ap:=VP.o.ep;have az:i≤800:=by have:=ai.o;omega
    clear l OP U MK HC HD VP HX ad ci;generalize gH E x=X at K S O1 M1 O HS Y ⊢;generalize wr.alloc (.cells (hA X) 81)=w1 at K S O1 M1 ⊢;generalize wr.heap.size=ge at K ⊢;have P:=do_any H gr i J X.m.k X.m.a X.m.s X.m.p X.m.q X.m.n X.m.t X.m.i X.m.y X.m.z X.m.v X.sx X.ex X.m.x X.sw w1 M1 (κ SV.o.1) (by omega) (κ SV.o.2) ⟨ap.1,by have:=ap.2;show(plO J).ep≤_;omega⟩ O.o.p O.o.q O.o.y O.o.v O.o.s O.o.e.1 O.o.e.2;have hX:(⟨⟨X.m.k,X.m.a,X.m.s,X.m.x,X.m.p,X.m.q,X.m.n,X.m.t,X.m.i,X.m.y,X.m.z,X.m.v⟩,X.sw,X.sx,X.ex⟩:Opn)=opH X:=rfl;rw[hX]at P;generalize doF (plO J) (opH X)=R at P HS Y;obtain⟨P1,F,T,aA⟩:=R;simp only at P HS Y;have lo:=ldOpM (h21_blk K.o)
    go_wp2_with (refine wpList_ld _ _ rfl rfl rfl lo ?_)
    refine P.mono ?_;rintro e w2 ⟨q1,A2,n2,c2,rfl,_,_,_,hM,hP,hA,hK,_⟩;have O2:Hid (Ris w2 w2.heap.size (some (α b o)) (nI L)):=κ (rd_kp O1.o hK (by rw[QA.o];exact FR.o));have K2:=κ (blk_do K.o M1.o (by decide) (by decide) hK);have U2:=κ (below_kp S.o M1.o hK av.o);have M2:=κ hM;have P2:=κ hP;have aq:Hid (q1.Ab=Ab):=κ (hA.trans QA.o);clear lo P hX hM hP hA hK O1 K S M1 QA SV;have l:=β w2 (.cells (vI F T) 74);have B3:=κ (Blk.fresh w2 74 (vI F T));have O3:Hid (Ris (w2.alloc (.cells (vI F T) 74)) (w2.alloc (.cells (vI F T) 74)).heap.size (some (α b o)) (nI L)):=κ (Rd.below' O2.o l l.size);have K3:=κ (K2.o.below' l);have U3:=κ (bst U2.o l);have V:=κ (Mm_below M2.o l);clear l O2 K2 U2 M2
    go_upto_region 9 with fail
    generalize w2.alloc (.cells (vI F T) 74)=w3 at B3 O3 K3 U3 V ⊢;generalize w2.heap.size=ga at B3 ⊢;have c3:w3.cell? (α ge 3)=some (ι X.e):=K3.o.cell 3;have aB:w3.cell? (α ge 19)=some (ι X.c):=K3.o.cell 19;have aC:w3.cell? (α ge 20)=some (ι X.d):=K3.o.cell 20;obtain⟨a0,a1,_,_⟩:=Mds.q2b B3.o;obtain⟨b',o',ay,_,ar⟩:=Ris.at (i:=i) O3.o an.o;cases ay;have ci:=ar i an.o;rw[HG.o]at ci;clear ar;have au:Hid (Vp (i+1) (plO q1)):=κ (by rw[P2.o];exact Y.o);by_cases he:X.e=0
    ·have e0:(X.e != 0)=false:=by simp[he]
     have HN:Hid (j=chkL E (L.drop (i+1)) (plO q1)):=κ (by rw[HS.o,P2.o,if_neg (by exact fun h=>h.1 he)])
     go_wp2_with fail
     go_roundg g
     case measure=>omega
     case rel=>exact⟨i+1,q1,by omega,by go_num,HN,au,V,aq,O3,U3⟩
    ·have e0:(X.e != 0)=true:=by simp[he]
     by_cases hcc:F=X.c
     ·by_cases hdd:T=X.d
      ·have e1:(X.c != F)=false:=by simp[hcc]
       have f1:(X.c==F)=true:=by simp[hcc]
       have e2:(X.d != T)=false:=by simp[hdd]
       have f2:(X.d==T)=true:=by simp[hdd]
       have HN:Hid (j=chkL E (L.drop (i+1)) (plO q1)):=κ (by rw[HS.o,P2.o,if_neg (by exact fun h=>h.2 ⟨hcc,hdd⟩)])
       go_wp2_with fail
       go_roundg g
       case measure=>omega
       case rel=>exact⟨i+1,q1,by omega,by go_num,HN,au,V,aq,O3,U3⟩
      ·have e1:(X.c != F)=false:=by simp[hcc]
       have f1:(X.c==F)=true:=by simp[hcc]
       have e2:(X.d != T)=true:=by simpa using fun h=>hdd h.symm
       have f2:(X.d==T)=false:=by simpa using fun h=>hdd h.symm
       have HN:Hid (j=(x:Int)):=κ (by rw[HS.o,if_pos ⟨he,fun h=>hdd h.2⟩])
       go_wp2_with fail
       go_ret;exact⟨by rw[←RE.o,HN.o];rfl,U3.o⟩
     ·have e1:(X.c != F)=true:=by simpa using fun h=>hcc h.symm
      have f1:(X.c==F)=false:=by simpa using fun h=>hcc h.symm
      have HN:Hid (j=(x:Int)):=κ (by rw[HS.o,if_pos ⟨he,fun h=>hcc h.1⟩])
      go_wp2_with fail
      go_ret;exact⟨by rw[←RE.o,HN.o];rfl,U3.o⟩
   ·have hL:Hid (j= -1):=κ (by rw[HC.o,List.drop_eq_nil_of_le (by omega)];rfl);have Z:decide ((i:Int)<(L.length:Int))=false:=by simp;omega
    go_wp2_with fail
    go_ret;exact⟨by rw[←RE.o,hL.o];rfl,U.o⟩
 ·have hF:Hid (chkF n E (bgnP (sN:Int) wi ra ta nd ac sy)= -2):=κ (by unfold chkF;rw[if_neg hR]);have he:=aa (Bool.eq_false_iff.2 hR);subst he;clear hR aa G af
  go_wp2_with fail
  go_ret;exact⟨by rw[hF.o];rfl,S.o⟩
end Hcc
namespace Hsc
open Cfg Bko Rr4 Mdb Rmp Hpl Hqp Hfp Hgr Hss
open Hck (chkF WfE WfO)
open Hri (WfH)
open Mds (Pm)
open Mdd (Opn doF)
structure Cg(w:World)(b g:Nat)(cs:Array Value)(A B C:Option Addr)(nl al sl c d f:Nat)(nd:List (Int×Int))(ac:List Int)(sy:List (Int×Int×Int×Nat)):Prop where
 k:Blk w g 43 cs
 n:w.ownsRow b 151 2 (.slice A nl c) nl (nds nd)
 r:w.ownsRow b 3 1 (.slice B al d) al (ints ac)
 s:w.ownsRow b 103 4 (.slice C sl f) sl (smbs sy)
section
variable {w w':World} {b g:Nat} {cs:Array Value} {A B C:Option Addr} {nl al sl c d f:Nat} {nd:List (Int×Int)} {ac:List Int} {sy:List (Int×Int×Int×Nat)}
theorem Cg.below(h:Cg w b g cs A B C nl al sl c d f nd ac sy)(hb:Below w.heap.size w w'):Cg w' b g cs A B C nl al sl c d f nd ac sy:=
 ⟨h.k.below' hb,(own_below (κ h.n) hb).out,(own_below (κ h.r) hb).out,(own_below (κ h.s) hb).out⟩
theorem Cg.grown(h:Cg w b g cs A B C nl al sl c d f nd ac sy){b2 n:Nat}{v:Value}{xs:List Value}(k:w.ownsRow b2 81 21 v n xs)(hg:w.grownBy w' v.ownBlock):Cg w' b g cs A B C nl al sl c d f nd ac sy:=
 ⟨blk_own_grown h.k k (by decide) hg,own_grown h.n k (by decide) hg,own_grown h.r k (by decide) hg,own_grown h.s k (by decide) hg⟩
theorem Cg.N(h:Cg w b g cs A B C nl al sl c d f nd ac sy):Hid (Nds w w.heap.size A nd):=κ (Rd.of_own h.n)
theorem Cg.R(h:Cg w b g cs A B C nl al sl c d f nd ac sy):Hid (Ris w w.heap.size B ac):=κ (Rd.of_own h.r)
theorem Cg.S(h:Cg w b g cs A B C nl al sl c d f nd ac sy):Hid (Smb w w.heap.size C sy):=κ (Rd.of_own h.s)
end
variable {E:List He} {k:Nat} {x:He} {O:List Opn} {P:Pm}
theorem wfH_set(h:WfH E)(hk:k<E.length)(hx:x.k=(gH E k).k):WfH (E.set k x):=fun i a=>by
 rw[List.length_set]at a
 rw[gH_set hk]
 split
 ·rw[hx];exact h k hk
 ·exact h i a
theorem wfE_set(h:WfE E)(hk:k<E.length)(hm:x.m=(gH E k).m)(h1:x.sx=(gH E k).sx)(h2:x.ex=(gH E k).ex):WfE (E.set k x):=fun i j=>by
 rw[List.length_set]at j
 rw[gH_set hk]
 split
 ·have a:=h k hk
  exact⟨by rw[hm];exact a.p,by rw[hm];exact a.q,by rw[hm];exact a.t,by rw[hm];exact a.y,by rw[hm];exact a.v,by rw[h1];exact a.s,by rw[h2];exact a.e⟩
 ·exact h i j
def oneD(E:List He)(k:Nat):He:={gH E k with d:=wrap64 ((gH E k).d+1)}
def oneE(E:List He)(k:Nat):He:={oneD E k with e:=0}
theorem okE_zero{n:Int}(h:okE n x=true):okE n {x with e:=0}=true:=by
 unfold okE timE timB at h ⊢;simp only[Bool.and_eq_true]at h ⊢;exact⟨h.1,h.2.1,h.2.2.1,rfl⟩
theorem told_d(hE:E=swp (ownL P 0 O))(hm:O.length≤90)(hk:k<E.length):chkF 3 (E.set k (oneD E k)) P=(k:Int)∧chkF 3 (E.set k (oneE E k)) P= -1:=by
 have e:gH E k∈ownL P 0 O:=by
  have i:=List.getElem_mem hk;rw[←gH_get hk]at i;have j:gH E k∈swp (ownL P 0 O):=hE ▸ i;exact(swp_perm _).mem_iff.1 j
 obtain⟨i,j,_,_⟩:=own_ok O P 0 _ e;subst hE;have a:=own_set (x:=oneD _ k) hm hk rfl i rfl;have b:=own_set (x:=oneE _ k) hm hk rfl (okE_zero (x:=oneD _ k) i) rfl;refine⟨a.1 j fun h=>?_,b.2 rfl⟩;have l:wrap64 ((gH (swp (ownL P 0 O)) k).d+1)=(gH (swp (ownL P 0 O)) k).d:=h.2;generalize (gH (swp (ownL P 0 O)) k).d=z at l;unfold wrap64 at l;omega
theorem pick_k(how:Int){n:Nat}(h0:0<n)(h:n≤1000000): ∃k:Nat,k<n∧Hid ((IntKind.u64.wrap how).tmod (n:Int)=(k:Int)∧0≤IntKind.u64.wrap how∧IntKind.u64.wrap (n:Int)=(n:Int)∧ ¬((n:Int)=0)∧wrap64 (k:Int)=(k:Int)):=by
 have a:0≤IntKind.u64.wrap how:=by rw[IntKind.wrap_u64];omega
 have e:=Int.emod_nonneg (IntKind.u64.wrap how) (show(n:Int)≠0 by omega);have i:=Int.emod_lt_of_pos (IntKind.u64.wrap how) (show(0:Int)<n by omega);rw[←Int.tmod_eq_emod_of_nonneg a]at i e;refine⟨((IntKind.u64.wrap how).tmod (n:Int)).toNat,?_,κ ⟨?_,a,?_,?_,?_⟩⟩
 ·generalize (IntKind.u64.wrap how).tmod (n:Int)=z at i e ⊢;omega
 ·generalize (IntKind.u64.wrap how).tmod (n:Int)=z at i e ⊢;omega
 ·rw[IntKind.wrap_u64];omega
 ·omega
 ·generalize (IntKind.u64.wrap how).tmod (n:Int)=z at i e ⊢;unfold wrap64;omega
theorem turn_ne(z:Int):wrap64 (1-z)≠z:=by
 unfold wrap64;omega
end Hsc
end Go.Proofs.YtcccdikhfgpamaaGreat
