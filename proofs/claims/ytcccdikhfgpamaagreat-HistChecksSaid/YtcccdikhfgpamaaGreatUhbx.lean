/- Texts side by side. -/
import Derived.Test.YtcccdikhfgpamaaGreatUhbo
import Derived.Test.YtcccdikhfgpamaaGreatUhbw
set_option linter.unusedVariables false
set_option linter.unusedSimpArgs false
set_option maxRecDepth 100000
set_option maxHeartbeats 16000000
namespace Go.Proofs.YtcccdikhfgpamaaGreat
open Mem
namespace Hpl
open Wpl Hpa
open Mds (Pm)
open Mdd (Opn doF)
def opH(x:He):Opn:=⟨x.m,x.sw,x.sx,x.ex⟩
def chkL(E:List He):List Nat→Pm→Int
 |[],_=> -1
 |i :: t,P=>if (gH E i).e≠0∧ ¬((doF P (opH (gH E i))).2.1=(gH E i).c∧(doF P (opH (gH E i))).2.2.1=(gH E i).d) then (i:Int) else chkL E t (doF P (opH (gH E i))).1
def letL(E:List He):List Nat→Pm→List (Int×Int)
 |[],_=>[]
 |i :: t,P=>(doF P (opH (gH E i))).2.2.2++letL E t (doF P (opH (gH E i))).1
def wholeF(E:List He):Bool:=E.all fun x=> !(x.k != 0&&x.e==0)
def ofF(l:List (Int×Int))(n s:Int):List (Int×Int):=l.filter fun o=>o.2%n==s
def shF(want out:List (Int×Int))(wh:Bool)(n s:Int):Bool:=decide ((ofF out n s).length≤(ofF want n s).length)&&(!(wh&&decide ((ofF out n s).length<(ofF want n s).length))&&(ofF out n s==(ofF want n s).take (ofF out n s).length))
def queL(want out:List (Int×Int))(wh:Bool)(n:Int):Nat→Nat→Bool
 |0,_=>true
 |g+1,s=>shF want out wh n s&&queL want out wh n g (s+1)
end Hpl
namespace Hmc
open Kap Go.ChangeShapes Go.WideShapes Go.ChangeAt Go.RowKit Go.Lib Tre Ref3 Law3 Wpl Hpa Hws Hod
def cmpI(a b:Int):Int:=if a<b then-1 else if b<a then 1 else 0
theorem cmpI_lt(a b:Int):decide (cmpI a b<0)=decide (a<b):=by
 unfold cmpI;by_cases h:a<b
 ·simp[h]
 ·rw[if_neg h];by_cases k:b<a
  ·simp[h,k]
  ·simp[h,k]
theorem rgt_not{n:Int}: ∀(E:List He) (s:List Int),rgt n E s=true→ ∀y∈E,y.k ∉ s
 |[],_,_=>fun y hy=>absurd hy (by simp)
 |x :: t,s,h=>by
  have h1:(okE n x&&(!(s.contains x.k)&&rgt n t (mkS x s)))=true:=h
  rw[Bool.and_eq_true,Bool.and_eq_true]at h1
  obtain⟨_,b,c⟩:=h1
  have d:=rgt_not t _ c
  intro y hy
  rcases List.mem_cons.1 hy with rfl|hy
  ·intro a;simp[a]at b
  ·intro a
   refine d y hy ?_
   unfold mkS
   split
   ·exact a
   ·exact List.mem_cons_of_mem _ a
theorem rgt_pair{n:Int}: ∀(E:List He) (s:List Int),rgt n E s=true→E.Pairwise (fun x y=>x.k≠0→x.k≠y.k)
 |[],_,_=>List.Pairwise.nil
 |x :: t,s,h=>by
  have h1:(okE n x&&(!(s.contains x.k)&&rgt n t (mkS x s)))=true:=h
  rw[Bool.and_eq_true,Bool.and_eq_true]at h1
  refine List.pairwise_cons.2 ⟨fun y a b e=>rgt_not t _ h1.2.2 y a ?_,rgt_pair t _ h1.2.2⟩
  unfold mkS
  rw[if_neg b,←e]
  exact List.mem_cons_self ..
theorem fk_get{E:List He}{i:Nat}(h:i<E.length):fk E i=(E[i]).k:=by simp[fk,gH,h]
theorem right_one{n:Int}{E:List He}(h:rightF n E=true): ∀a,a<E.length→ ∀b,b<E.length→fk E a≠0→fk E a=fk E b→a=b:=by
 unfold rightF at h;simp only[Bool.and_eq_true]at h;have g:=List.pairwise_iff_getElem.1 (rgt_pair _ _ h.2.2.2);intro a f b c d e;rcases Nat.lt_trichotomy a b with hlt|he|hlt
 ·rw[fk_get f]at d e;rw[fk_get c]at e;exact absurd e (g a b f c hlt d)
 ·exact he
 ·rw[e]at d;rw[fk_get f,fk_get c]at e;rw[fk_get c]at d;exact absurd e.symm (g b a c f hlt d)
def plc(E:List He)(n:Nat):List Nat:=(List.range n).filter fun i=>fk E i != 0
theorem plc_succ(E:List He)(n:Nat):plc E (n+1)=if fk E n=0 then plc E n else plc E n++[n]:=by
 unfold plc;rw[List.range_succ,List.filter_append];by_cases h:fk E n=0<;>simp[h]
theorem plc_lt{E:List He}{n a:Nat}(h:a∈plc E n):a<n∧fk E a≠0:=by
 obtain⟨b,c⟩:=List.mem_filter.1 h;exact⟨List.mem_range.1 b,by simpa using c⟩
theorem plc_len(E:List He)(n:Nat):(plc E n).length≤n:=Nat.le_trans (List.length_filter_le _ _) (by simp)
theorem sorted_ord{n:Int}{E:List He}(h:rightF n E=true){l:List Nat}(hp:l.Perm (plc E E.length))(hs:l.Pairwise (fun a b=>fk E a≤fk E b)):l=ordF E:=
 ord_one (hp.trans (ordN_perm (fk E) E.length).symm) hs (ordN_sorted (fk E) E.length) fun a c b d e=>right_one h a (plc_lt (hp.mem_iff.1 c)).1 b (plc_lt (hp.mem_iff.1 d)).1 (plc_lt (hp.mem_iff.1 c)).2 e
theorem isnan_any(a:Int)(w:World):Calls Tryz.prog 85 #[.int .i64 a] w fun e w'=>e= .returned (.bool false)∧w'=w:=by
 have e:(a != a)=false:=by simp
 go_enter Tryz.func85,Tryz.ntmps85
 go_wp2_with fail
 go_ret;exact⟨by simp,rfl⟩
theorem compare_any(a b:Int)(w:World):Calls Tryz.prog 51 #[.int .i64 a,.int .i64 b] w fun e w'=>e= .returned (.int .i64 (cmpI a b))∧w'=w:=by
 go_enter Tryz.func51,Tryz.ntmps51
 go_wp2_with fail
 refine(isnan_any a w).mono ?_;rintro e c ⟨rfl,rfl⟩
 go_wp2_with fail
 refine(isnan_any b c).mono ?_;rintro e d ⟨rfl,rfl⟩;by_cases h:a<b
 ·have H:=κ (show cmpI a b= -1 by unfold cmpI;rw[if_pos h])
  go_wp2_with fail
  go_ret;exact⟨by rw[H.o];rfl,rfl⟩
 ·by_cases k:b<a
  ·have H:=κ (show cmpI a b=1 by unfold cmpI;rw[if_neg h,if_pos k])
   go_wp2_with fail
   go_ret;exact⟨by rw[H.o];rfl,rfl⟩
  ·have H:=κ (show cmpI a b=0 by unfold cmpI;rw[if_neg h,if_neg k])
   go_wp2_with fail
   go_ret;exact⟨by rw[H.o];rfl,rfl⟩
theorem mcmp_any(E:List He)(gl b o cL i j:Nat)(w:World)(hi:i<E.length)(hj:j<E.length)(h1:w.cell? ⟨gl,0,none⟩=some (.slice (some ⟨b,o,none⟩) E.length cL))(hc: ∀k,k<E.length→w.cell? ⟨b,o+k*21+2,none⟩=some (.int .i64 (fk E k))):
  Calls Tryz.prog 50 #[.int .i64 (i:Int),.int .i64 (j:Int),.pointer (some ⟨gl,0,none⟩)] w fun e w'=>e= .returned (.int .i64 (cmpI (fk E i) (fk E j)))∧ ∃q,w'=w.drewN q:=by
 have f:=hc i hi;have g:=hc j hj;have a:(i:Int)<(E.length:Int):=by omega
 have c:(j:Int)<(E.length:Int):=by omega
 clear hc
 go_enter Tryz.func50,Tryz.ntmps50
 go_wp2_with fail
 go_quiet ((go_at_call 51;exact Calls.quiet_of_same (compare_any _ _ _)))
 rename Nat=>d
 go_wp2_with fail
 go_ret;exact⟨rfl,d,rfl⟩
end Hmc
namespace Hmk
open Kap Go.ChangeShapes Go.WideShapes Go.ChangeAt Go.RowKit Go.Lib Tre Ref3 Law3 Apt Wpl Hpa Hws Hod Hmc
section
variable {enc:Nat→Value} {w w0:World} {g n:Nat} {d:Array Nat} {os:Array Obj} {B:Nat}
theorem sw_block{k:Nat}(hk:k<w.heap.size)(hne:k≠g):(sortWorld enc w g 0 n d os).heap[k]? =w.heap[k]? :=by
 unfold sortWorld;rw[Go.Sort.heap_grow_old _ _ (by simpa using hk)];show((w.heap.modify g _)[k]?)=_;rw[Array.getElem?_modify,if_neg (fun e=>hne e.symm)]
theorem sw_size:w.heap.size≤(sortWorld enc w g 0 n d os).heap.size:=by
 unfold sortWorld;rw[Go.Sort.size_grow];simp
theorem sw_below(hb:Below B w0 w)(hB:B≤g)(hw:B≤w.heap.size):Below B w0 (sortWorld enc w g 0 n d os):=
 ⟨hb.os,hb.tape,hb.output,Nat.le_trans hb.size sw_size,fun i a=>(sw_block (by omega) (by omega)).trans (hb.block i a)⟩
end
def encN(n x:Nat):Value:= .int .i64 ((x%n:Nat):Int)
theorem swo(f:Nat→Int):Go.Sort.SWO (ltOf fun x y=>cmpI (f x) (f y)):=by
 refine⟨fun x=>?_,fun x y z a b=>?_,fun x y z a b=>?_⟩
 ·unfold ltOf;rw[cmpI_lt];simp
 ·unfold ltOf at a b ⊢;rw[cmpI_lt]at a b ⊢;simp only[decide_eq_true_eq]at a b ⊢;omega
 ·unfold ltOf at a b ⊢;rw[cmpI_lt]at a b ⊢;simp only[decide_eq_false_iff_not]at a b ⊢;omega
theorem nI_get(L:List Nat)(j:Nat):(ints (nI L))[j]? =(L[j]?).map fun k:Nat=>Value.int .i64 (k:Int):=by
 simp[ints,nI,Function.comp_def]
theorem marked_any{n:Int}(E:List He)(Al:Option Addr)(cL:Nat)(w:World)(hl:Hid (Rd w w.heap.size Al (hrow E)))(hR:rightF n E=true)(hm:E.length≤1000):
  Calls Tryz.prog 27 #[.slice Al E.length cL] w (MadeOr (ordF E) w):=by
 have HR:=κ hR;clear hR;obtain⟨i0,V,I,ac,ad⟩:=info_parts int_info;have J:=κ (β w (.cells #[.slice Al E.length cL] 34));have Z:=κ (Blk.fresh w 34 #[.slice Al E.length cL])
 go_enter Tryz.func27,Tryz.ntmps27
 go_upto_region 1 with fail
 generalize w.alloc (.cells #[.slice Al E.length cL] 34)=w0 at J Z ⊢;generalize w.heap.size=W at Z ⊢;have k0:=χ (Z.o.cell 0);have H0:Hid (Rd w0 w0.heap.size Al (hrow E)):=κ (Rd.below' hl.o J.o J.o.size)
 go_wp2_with fail
 go_loopg [3,8] E.length (fun g s3 s8 w'=> ∃(i t:Nat) (Y:Option Addr) (G:Nat),i+g=E.length∧s8= ι i∧s3= .slice Y t G∧Hid (t=(plc E i).length∧t≤i)∧Hid (World.ownsRow w' w0.heap.size 3 1 (.slice Y t G) t (ints (nI (plc E i))))∧Hid (Below w0.heap.size w0 w'))
 case atStart=>exact⟨0,0,none,0,by omega,rfl,rfl,κ ⟨rfl,τ⟩,κ (World.ownsRow_nil _ _ _ _),κ ψ⟩
 case round=>
  clear k0;obtain⟨i,t,Y,G,ak,rfl,rfl,q,O,U⟩:=hrel
  rename World=>s
  by_cases A:i<E.length
  ·obtain⟨g,rfl⟩: ∃g,gk=g+1:=⟨gk-1,by omega⟩;have al:i<1000:=by omega
   have ae:decide ((i:Int)<(E.length:Int))=true:=by simp;omega
   have am:(i:Int)<(E.length:Int):=by omega
   obtain⟨b,o,rfl,hb,hc⟩:=hes_at (Rd.below' H0.o U.o U.o.size) (by omega);have f:=hc i A;have HS:=κ (plc_succ E i);have HF:Hid (fk E i=(gH E i).k):=κ rfl;clear hc hb;have ld:=ld21 f
   go_upto_region 5 with(first|(refine wpList_ld _ _ rfl rfl rfl ld ?_)|(refine wpList_st _ _ _ rfl rfl rfl rfl (st21 _ _) ?_))
   clear ld f;have K:=κ (Blk.fresh s 81 (hA (gH E i)));have ub:=β s (.cells (hA (gH E i)) 81);have U1:=κ (bst U.o ub);have O1:=own_below O ub;clear ub U O;generalize gH E i=X at K U1 O1 HF ⊢;generalize s.alloc (.cells (hA X) 81)=w1 at K U1 O1 ⊢;generalize s.heap.size=ge at K ⊢;have c2:w1.cell? ⟨ge,2,none⟩=some (.int .i64 X.k):=K.o.cell 2;by_cases h0:X.k=0
   ·have e0:(X.k != 0)=false:=by simp[h0]
    have HP:Hid (plc E (i+1)=plc E i):=κ (by rw[HS.o,HF.o,if_pos h0])
    go_wp2_with fail
    go_roundg g
    case measure=>omega
    case rel=>exact⟨i+1,t,Y,G,by omega,by go_num,rfl,κ ⟨by rw[HP.o];exact q.o.1,by have:=q.o.2;omega⟩,κ (by rw[HP.o];exact O1.o),U1⟩
   ·have e0:(X.k != 0)=true:=by simp[h0]
    have HP:Hid (plc E (i+1)=plc E i++[i]):=κ (by rw[HS.o,HF.o,if_neg h0]);have UB:=U1.o
    go_wp2_with (at_builtin;refine wpList_app1 O1 UB rfl _ _ _ rfl i0 (.int .i64 0) 8 Tryz.underlying23 V I ac ad rfl (by decide) rfl rfl rfl [.int .i64 (i:Int)] rfl rfl (by simp[Value.oneCell']) (by have:=q.o;unfold maxLen;omega) (by have:=q.o;omega) τ UB.size UB.size ?_;intro A1 c1 w2 L P an)
    go_roundg g
    case measure=>omega
    case rel=>exact⟨i+1,t+1,A1,c1,by omega,by go_num,rfl,κ ⟨by have:=q.o;rw[HP.o,List.length_append,←this.1];rfl,by have:=q.o.2;omega⟩,κ (by rw[HP.o];have h:=L.o;simpa[nI,ints] using h),κ P⟩
  ·have ae:decide ((i:Int)<(E.length:Int))=false:=by simp;omega
   obtain rfl:i=E.length:=by omega
   by_cases h0:t=0
   ·subst h0;have hp:plc E E.length=[]:=List.length_eq_zero_iff.1 q.o.1.symm;have hO:Hid (ordF E=[]):=κ (sorted_ord HR.o (l:=[]) (by rw[hp]) List.Pairwise.nil).symm
    go_wp2_with fail
    refine(Go.Proofs.Tryz.slices_SortFunc_none (α:=Nat) Y G _ s).mono ?_;rintro e w2 ⟨rfl,rfl⟩
    go_wp2_with fail
    go_ret;rw[hO.o];exact⟨Y,G,rfl,.inl rfl,bst J.o U.o,fun a ha=>by have h1:=own_new O.o a ha;have h2:=J.o.size;omega⟩
   ·rcases O.o.2 with⟨_,h2⟩|⟨g,ao,ap,hv,hg,hh,_,_,_,_⟩
    ·exact absurd h2 h0
    injection hv with hA hn9 hc9
    subst hA;subst hc9;have Q: ∀x∈plc E E.length,x<E.length:=fun x hx=>(plc_lt hx).1
    have z:0<E.length:=by have h1:=q.o.1;have h2:=plc_len E E.length;omega
    have R:Hid (g<s.heap.size):=κ (Array.getElem?_eq_some_iff.1 hh).1;have aa:Hid (w0.heap.size≤g):=κ hg;have K1:=Z.o.below' U.o;have aq:=Z.o.lt;obtain⟨b,o,rfl,hb,hc⟩:=hes_at H0.o z;obtain⟨d,hd⟩: ∃d,d=(plc E E.length).toArray:=⟨_,rfl⟩;have S:d.size=t:=by rw[hd,q.o.1];simp
    have hH:Go.Sort.Holds (encN E.length) s g 0 d:=fun j hj=>by
     have T:j<(plc E E.length).length:=by rw[hd]at hj;simpa using hj
     have c:=World.ownsRow.cellAt O.o j (by omega);have f:=World.ownsRow.frozenAt O.o j;rw[nI_get,List.getElem?_eq_getElem T]at c;refine⟨?_,by rw[Nat.zero_add];exact f⟩;rw[Nat.zero_add,c];have e:d[j]! =(plc E E.length)[j]:=by rw[hd];simp[T]
     rw[e];unfold encN;rw[Nat.mod_eq_of_lt (Q _ (List.getElem_mem T))];rfl
    have H:CmpLays1 Tryz.prog 50 #[.pointer (some (α W 0))] (encN E.length) (fun x y=>cmpI (fk E (x%E.length)) (fk E (y%E.length))) g 0 d.size s:=CmpReads.lays (fun m os dk hs x y=>by
     have hz:=U.o.size
     have q1:(sortWorld (encN E.length) s g 0 m dk os).cell? (α W 0)=some (.slice (some (α b o)) E.length cL):=(World.cell?_of_block (sw_block (by show W<_;omega) (by show W≠_;omega))).trans (K1.cell 0)
     have h:=mcmp_any E W b o cL (x%E.length) (y%E.length) (sortWorld (encN E.length) s g 0 m dk os) (Nat.mod_lt _ z) (Nat.mod_lt _ z) q1 (fun k hk=>(World.cell?_of_block (sw_block (by show b<_;omega) (by show b≠_;omega))).trans ((U.o.cell (p:=(α b (o+k*21+2))) hb).trans (hc k hk).2.2.1))
     exact h)
    have SF:=Go.Proofs.Tryz.slices_SortFunc (encN E.length) (fun _=>rfl) _ (swo fun x=>fk E (x%E.length)) 50 #[.pointer (some (α W 0))] g 0 G d s (enters_of Tryz.func50 (by kernel_rfl) rfl) H hH R.o (by have:=q.o.2;omega);rw[S]at SF;have HD:=κ hd;have ab:=κ S;have af:=κ hH;have OG:=own_new O.o (α g 0) rfl;have I:=J.o.size;clear H hH hd S hc hb hh hg K1
    go_wp2_with fail
    refine SF.mono ?_;rintro e w2 ⟨rfl,r,m,os,hP,hS,rfl⟩;have C:r.size=t:=by rw[hP.1,ab.o]
    have hq:=hP.2.2
    have hp:r.toList.Perm (plc E E.length):=by
     have e1:r.extract 0 t=r:=by rw[←C];exact Array.extract_size
     have e2:d.extract 0 t=d:=by rw[←ab.o];exact Array.extract_size
     rw[e1,e2,HD.o]at hq;simpa using hq
    have F: ∀k (hk:k<r.toList.length),r[k]! %E.length=r.toList[k]'hk:=fun k hk=>by
     have ag:k<r.size:=by simpa using hk
     have e:r[k]! =r.toList[k]:=by rw[getElem!_pos r k ag];simp
     rw[e,Nat.mod_eq_of_lt (Q _ (hp.mem_iff.1 (List.getElem_mem hk)))]
    have hL:r.toList=ordF E:=by
     refine sorted_ord HR.o hp (List.pairwise_iff_getElem.2 fun i j V hj ah=>?_);have h:=hS i j (Nat.zero_le _) ah (by rw[←C];simpa using hj);unfold ltOf at h;rw[cmpI_lt,F j hj,F i V]at h;simpa using h
    have hW:=holds_sortWorld (encN E.length) s g 0 m d r os R.o af.o hP.1;have HN:Hid (t=(ordF E).length):=κ (by rw[←hL];simpa using C.symm)
    have ai:Hid (Ris (sortWorld (encN E.length) s g 0 m r os) (sortWorld (encN E.length) s g 0 m r os).heap.size (some (α g 0)) (nI (ordF E))):=κ (.inr ⟨g,0,rfl,Nat.lt_of_lt_of_le R.o sw_size,fun i v V=>by
     rw[←hL,nI_get]at V
     obtain⟨x,hx,rfl⟩:=Option.map_eq_some_iff.1 V
     obtain⟨A,hx⟩:=List.getElem?_eq_some_iff.1 hx
     rw[(hW i (by simpa using A)).1]
     unfold encN
     rw[F i A,hx]⟩)
    have HB:Hid (Below w.heap.size w (sortWorld (encN E.length) s g 0 m r os)):=κ (bst J.o (sw_below U.o aa.o U.o.size));have aj:Hid (w.heap.size≤g):=κ (by have h1:=aa.o;omega);clear hL hW F hp hq hS hP C OG I Q
    go_wp2_with fail
    go_ret;refine⟨some ⟨g,0,none⟩,G,by rw[←HN.o];rfl,ai.o,HB.o,fun a ha=>?_⟩;injection ha with ha
    rw[←ha];exact aj.o
end Hmk
namespace Hgr
open Kap Go.ChangeShapes Go.WideShapes Go.ChangeAt Go.RowKit Tre Ref3 Law3 Bkp Stk Apt Bko Rr4 Mdb Mde Lac Rmp Mdp
open Mdz (Mz FarE Mz_of)
section
variable {P:Program}{w:World}{ops:Array Oper}{rest:List Oper}{o:Oper}{a:Act}{Q:Exit→Act→World→Prop}{Bx:Nat}{base:Nat}{e:TypeId}{size n m nm c:Nat}{v:Value}{xs news:List Value}{A:Option Addr}
theorem wpList_appB(hown:Hid (w.ownsRow base e size v n xs))(hr:Hid (Rd w Bx A news))(hnm:nm=n+m)(hgd:o.guard=none)(s x:Operand)(t:TypeId)
 (ho:o.op= .call {callee:= .builtin .append,args:= #[s,x],argTypes:= #[t,t]})
 (i:TypeInfo)(z:Value)(bytes:Nat)(ht:P.underlying t=some (.slice e))(hi:P.info? e=some i)(hz:i.zero=some z)
 (hsize:i.size=size)(hby:i.bytes=bytes)(hzs:z.cells.size=size)(hsz:0<size)
 (hs:a.eval s=v)(hx:a.eval x= .slice A m c)(hl:news.length=m*size)(h1: ∀u∈news,u.oneCell'=true)
 (h63:n+m≤maxLen)(hbytes:(n+m)*bytes≤140737488355328)(hbase:base≤w.heap.size)
 (h: ∀A' c' w',Hid (w'.ownsRow base e size (.slice A' nm c') nm (xs++news))→Hid (w.grownBy w' v.ownBlock)→Hid ((Value.slice A' nm c').ownBlock=v.ownBlock∨(Value.slice A' nm c').ownBlock=some w.heap.size)→wpList P ops Q rest (a.put o.dst (.slice A' nm c')) w'):
 wpList P ops Q (o :: rest) a w:=by
 cases A with
 |some ad=>exact Bku.wpList_appA hown hr hnm hgd s x t ho i z bytes ht hi hz hsize hby hzs hsz hs hx hl h1 h63 hbytes hbase h
 |none=>
  have f:news=[]:=by
   rcases hr.o with h|⟨b,o,h,_⟩
   ·exact h
   ·cases h
  subst f
  have j:m=0:=by
   rcases Nat.eq_zero_or_pos m with h|h
   ·exact h
   ·have:=Nat.mul_pos h hsz;simp at hl;omega
  subst j;subst hnm;obtain⟨A',c',hv,_⟩:=own_form hown.o;subst hv;refine wpList_plain hgd fun _ k=>?_
  have d:=run_appNil w base t o.type e i size ht hi _ _ xs hown.o c;unfold Oper.wp execOp;simp only[ho,resolve,invoke,builtin,Sem.run_bind,Sem.run_pure,Result.andThen_ok,List.map_toArray,List.map_cons,List.map_nil,hs,hx,d];exact k _ _ (h A' c' w (κ (by simpa using hown.o)) (κ (grown_refl _ _)) (κ (.inl rfl)))
end
variable {q:Mq} {base B g n c n' c':Nat} {w w':World} {v:Value} {xs:List Value} {A':Option Addr}
theorem far_z{r:Option Nat}{X:Option Addr}{ys:List Value}(f: ∀z,r=some z→FarE z X ys):ys=[]∨ ∀a,X=some a→r≠some a.block:=by
 by_cases h:ys=[]
 ·exact .inl h
 ·refine .inr fun a b e=>?_
  rcases f _ e with h2|h2
  ·exact h h2
  ·exact h2 a b rfl
theorem rm_grown(M:Rm base w g q)(O:w.ownsRow B 71 2 v n xs)(k:w.grownBy w' v.ownBlock)(hz: ∀z,v.ownBlock=some z→Mz z g q):Rm base w' g q:=by
 have s:=fun {X:Option Addr} {ys:List Value} (hr:Rd w w.heap.size X ys) (f: ∀z,v.ownBlock=some z→FarE z X ys)=>Rd_grown hr k (far_z f)
 exact⟨blk_own_grown M.blk O (by decide) k,own_grown M.row O (by decide) k,M.gb,M.l1,M.l2,M.l3,M.l4,M.l5,M.l6,s M.nds fun z h=>(hz z h).z1,s M.ris fun z h=>(hz z h).z2,s M.smb fun z h=>(hz z h).z3,s M.cn fun z h=>(hz z h).z4,s M.cr fun z h=>(hz z h).z5,fun i b=>⟨s (M.bm i b).r fun z h=>((hz z h).zx i b).1,(M.bm i b).e,fun j d=>s ((M.bm i b).n j d) fun z h=>((hz z h).zx i b).2.2 j d,s (M.bm i b).o fun z h=>((hz z h).zx i b).2.1⟩,M.f1,M.f2,M.f3,M.f4,M.f5,M.fx⟩
theorem mm_grown(M:Mm base w g q)(O:w.ownsRow B 93 2 v n xs)(k:w.grownBy w' v.ownBlock)(hz: ∀z,v.ownBlock=some z→Mz z g q):Mm base w' g q:=by
 have s:=fun {X:Option Addr} {ys:List Value} (hr:Rd w w.heap.size X ys) (f: ∀z,v.ownBlock=some z→FarE z X ys)=>Rd_grown hr k (far_z f)
 exact⟨blk_own_grown M.blk O (by decide) k,own_grown M.row O (by decide) k,M.gb,M.l1,M.l2,M.l3,M.l4,M.l5,M.l6,s M.nds fun z h=>(hz z h).z1,s M.ris fun z h=>(hz z h).z2,s M.smb fun z h=>(hz z h).z3,s M.cn fun z h=>(hz z h).z4,s M.cr fun z h=>(hz z h).z5,fun i b=>⟨s (M.bm i b).r fun z h=>((hz z h).zx i b).1,(M.bm i b).e,fun j d=>s ((M.bm i b).n j d) fun z h=>((hz z h).zx i b).2.2 j d,s (M.bm i b).o fun z h=>((hz z h).zx i b).2.1⟩,M.f1,M.f2,M.f3,M.f4,M.f5,M.fx⟩
theorem own_kpr{te:TypeId}(O:w.ownsRow B te 2 v n xs)(M:Rm base w g q)(h1:te≠118)(h2:te≠122)(k:Kp w w' g q.Ab):w'.ownsRow B te 2 v n xs:=by
 refine⟨O.1,?_⟩;rcases O.2 with h|⟨kk,cap,cur,hv,hg,hh,r⟩
 ·exact .inl h
 ·exact .inr ⟨kk,cap,cur,hv,hg,blk_dor (show Blk w kk te cur from hh) M h1 h2 k,r⟩
theorem own_kp{te:TypeId}(O:w.ownsRow B te 2 v n xs)(M:Mm base w g q)(h1:te≠144)(h2:te≠181)(k:Kp w w' g q.Ab):w'.ownsRow B te 2 v n xs:=by
 refine⟨O.1,?_⟩;rcases O.2 with h|⟨kk,cap,cur,hv,hg,hh,r⟩
 ·exact .inl h
 ·exact .inr ⟨kk,cap,cur,hv,hg,blk_do (show Blk w kk te cur from hh) M h1 h2 k,r⟩
theorem mz_push{r s:Option Nat}{k:Nat}(ho:r=s∨r=some k)(hz: ∀z,s=some z→Mz z g q)(hk:Mz k g q): ∀z,r=some z→Mz z g q:=fun z h=>by
 rcases ho with e|e
 ·exact hz z (e ▸ h)
 ·rw[e]at h;injection h with h;exact h ▸ hk
theorem rd_off{X:Option Addr}{ys:List Value}{te:TypeId}(h:Rd w w.heap.size X ys)(O:w.ownsRow B te 2 v n xs)(hb:ys=[]∨ ∀a,X=some a→a.block<B)(k:w.grownBy w' v.ownBlock):Rd w' w'.heap.size X ys:=by
 rcases hb with h0|hb
 ·exact .inl h0
 ·exact Rd_grown h k (.inr fun a b e=>by have d:=hb a b;have f:=(World.ownsRow.lt O _ e).1;omega)
theorem rd_lt{X:Option Addr}{ys:List Value}{b:Nat}(h:Rd w b X ys):ys=[]∨ ∀a,X=some a→a.block<b:=by
 rcases h with h|⟨g,o,hA,hb,_⟩
 ·exact .inl h
 ·exact .inr fun a d=>by rw[hA]at d;injection d with d;rw[←d];exact hb
end Hgr
end Go.Proofs.YtcccdikhfgpamaaGreat
