/- Texts side by side. -/
import Derived.Deep.DeepCutAuto
import Derived.Test.YtcccdikhfgpamaaGreatUfaf
set_option linter.unusedVariables false
set_option linter.unusedSimpArgs false
set_option maxRecDepth 100000
set_option maxHeartbeats 16000000
namespace Go.Proofs.YtcccdikhfgpamaaGreat
open Kap Abv Go.ChangeShapes Go.WideShapes Go.ChangeAt Go.RowKit Mem Tre Ref3 Law3 Crd CrdB CrdC Rr4 Bkp Bks Bcl Dlk Stk Apt
namespace Bko
def OwR(base:Nat)(w:World)(x:Rc):Prop:=w.ownsRow base 2 1 (.slice x.A x.r.ns.length x.c) x.r.ns.length (ints x.r.ns)
def Apa(l:List Rc)(i:Nat):Prop:= ∀j k,j<k→k<i→ ∀a b,(gC l j).A=some a→(gC l k).A=some b→a.block≠b.block
structure Bo(base:Nat)(w:World)(A C:Option Addr)(c d:Nat)(rl:List Rc)(b:Bk):Prop where
 r:w.ownsRow base 243 3 (.slice A b.rows.length c) b.rows.length (rcs rl)
 o:w.ownsRow base 203 11 (.slice C b.op.length d) b.op.length (ens b.op)
 e:rl.map Rc.r=b.rows
 own: ∀k,k<rl.length→OwR base w (gC rl k)
 ap:Apa rl rl.length
variable {b:Bk} {rl:List Rc} {xs:List Value} {base c d g n size:Nat} {A C:Option Addr} {e te:TypeId} {v:Value} {w:World}
theorem Bo.below{w':World}(h:Bo base w A C c d rl b)(hb:Below w.heap.size w w'):Bo base w' A C c d rl b:=
 ⟨own_below h.r hb,own_below h.o hb,h.e,fun k a=>own_below (h.own k a) hb,h.ap⟩
theorem Bo.bm(h:Bo base w A C c d rl b):Bm w A C rl b:=
 ⟨Rd.of_own h.r,h.e,fun i a=>Rd.of_own (h.own i a),Rd.of_own h.o⟩
structure Oi(w0:World)(base:Nat)(w:World)(gB gR:Nat)(sh ca:Int)(Ar Ao:Option Addr)(nr cr no co:Nat)(rl rl':List Rc)(rows:List Ro)(op:List En)(i:Nat):Prop where
 kB:Blk w gB 181 #[.int .i64 sh,.int .i64 ca,.slice Ar nr cr,.slice Ao no co]
 kR:Blk w gR 181 #[.int .i64 0,.int .i64 0,.slice none 0 0,.slice none 0 0]
 r:w.ownsRow base 243 3 (.slice Ar nr cr) nr (rcs rl')
 o:w.ownsRow base 203 11 (.slice Ao no co) no (ens op)
 len:rl'.length=nr
 e:rl'.map Rc.r=rows
 old: ∀k,i≤k→gC rl' k=gC rl k
 own: ∀k,k<i→OwR base w (gC rl' k)
 ap:Apa rl' i
 b:Below w0.heap.size w0 w
theorem gC_set(l:List Rc)(i k:Nat)(x:Rc)(hi:i<l.length):gC (l.set i x) k=if k=i then x else gC l k:=by
 unfold gC;by_cases h:k=i
 ·subst h;simp[hi]
 ·rw[if_neg h];simp[List.getD,List.getElem?_set,show ¬i=k from fun e=>h e.symm]
theorem map_set_same(l:List Rc)(i:Nat)(x:Rc)(h:x.r=(gC l i).r)(hi:i<l.length):(l.set i x).map Rc.r=l.map Rc.r:=by
 rw[List.map_set,h];have e:(gC l i).r=(l.map Rc.r)[i]'(by simpa using hi):=by simp[gC,hi]
 rw[e];exact List.set_getElem_self _
theorem Oi.step{w0:World}{w1:World}{gB gR:Nat}{sh ca:Int}{Ar Ao:Option Addr}{nr cr no co:Nat}{rl':List Rc}{rows:List Ro}{op:List En}{i gr:Nat}(h:Oi w0 base w gB gR sh ca Ar Ao nr cr no co rl rl' rows op i)(hi:i<nr)(hA:Ar=some ⟨gr,0,none⟩)(hb1:Below w.heap.size w w1)(hw0:w0.heap.size≤base)(hbs:base≤w.heap.size)
  {A5:Option Addr}{c5:Nat}(how:w1.ownsRow w.heap.size 2 1 (.slice A5 (gC rl i).r.ns.length c5) (gC rl i).r.ns.length (ints (gC rl i).r.ns)):
  Oi w0 base (w1.setCell ⟨gr,i*3,none⟩ (.slice A5 (gC rl i).r.ns.length c5)) gB gR sh ca Ar Ao nr cr no co rl (rl'.set i ⟨A5,c5,⟨(gC rl i).r.ns,(gC rl' i).r.sec,(gC rl' i).r.cnt⟩⟩) rows op (i+1):=by
 have f:=own_below h.r hb1;have s:=own_below h.o hb1;subst hA;obtain⟨z,E⟩:=World.ownsRow.stored f (i*3) (.slice A5 (gC rl i).r.ns.length c5);have l:i<rl'.length:=by rw[h.len];exact hi
 have m:w1.grownBy (w1.setCell (α gr (i*3)) (.slice A5 (gC rl i).r.ns.length c5)) (Value.slice (some (α gr 0)) nr cr).ownBlock:=E;have F:=World.ownsRow.lt f gr rfl;refine⟨?_,?_,?_,?_,?_,?_,?_,?_,?_,?_⟩
 ·exact blk_own_grown (Blk.below' h.kB hb1) f (by decide) m
 ·exact blk_own_grown (Blk.below' h.kR hb1) f (by decide) m
 ·rw[rcs_setA _ _ l];exact z
 ·exact own_grown s f (by decide) m
 ·rw[List.length_set];exact h.len
 ·rw[map_set_same _ _ _ _ l]
  ·exact h.e
  ·rw[h.old i τ]
 ·intro k y;rw[gC_set _ _ _ _ l,if_neg (by omega)];exact h.old k (by omega)
 ·intro k y;rw[gC_set _ _ _ _ l];by_cases hki:k=i
  ·rw[if_pos hki];exact own_grown (own_mono (base':=base) how hbs) f (by decide) m
  ·rw[if_neg hki];exact own_grown (own_below (h.own k (by omega)) hb1) f (by decide) m
 ·intro j k t y a b x q;rw[gC_set _ _ _ _ l,if_neg (by omega)]at x;rw[gC_set _ _ _ _ l]at q;by_cases hki:k=i
  ·rw[if_pos hki]at q;simp only[]at q;have H:=World.ownsRow.lt (h.own j (by omega)) a.block (by rw[x];rfl);have I:=World.ownsRow.lt how b.block (by rw[q];rfl);omega
  ·rw[if_neg hki]at q;exact h.ap j k t (by omega) a b x q
 ·have G:=ξ (own_fresh f _ rfl);exact(below_step h.b hb1).setCell (p:=(α gr (i*3))) (by show _≤gr;omega) _
def MadeBo(b:Bk)(w:World)(e:Ending)(w':World):Prop:=
 ∃A C c d rl,e= .returned (bkA A C c d b)∧Bo w.heap.size w' A C c d rl b∧Below w.heap.size w w'
theorem own_st{cs:Array Value}(h:w.ownsRow base e size v n xs)(hk:Blk w g te cs)(hne:e≠te)(i:Nat)(x:Value):
  (w.setCell ⟨g,i,none⟩ x).ownsRow base e size v n xs:=by
 refine⟨h.1,?_⟩;rcases h.2 with h2|⟨k,cap,cur,hv,hg,hh,r⟩
 ·exact .inl h2
 ·have a:k≠g:=by
   rintro rfl;unfold Blk at hk;rw[hh]at hk;injection hk with hk
   injection hk with _ q
   exact hne q
  refine .inr ⟨k,cap,cur,hv,hg,?_,r⟩;rw[Below.heap_setCell _ _ _ _ (by exact a)];exact hh
theorem own_st4{u0 u1 u2 u3 v0 v1 v2 v3:Value}(h:w.ownsRow base e size v n xs)(hk:Blk w g te #[u0,u1,u2,u3])(hne:e≠te):
  (st4 w g v0 v1 v2 v3).ownsRow base e size v n xs:=by
 have a:=ξ (blk_st hk 0 v0);have f:=ξ (blk_st a 1 v1);have i:=ξ (blk_st f 2 v2);exact own_st (own_st (own_st (own_st h hk hne 0 v0) a hne 1 v1) f hne 2 v2) i hne 3 v3
theorem own_at{m:Nat}(h:w.ownsRow base e size (.slice A n c) m xs)(hn:0<n): ∃g,A=some ⟨g,0,none⟩:=by
 rcases h.2 with⟨a,_⟩|⟨g,f,i,a,_⟩
 ·simp at a;omega
 ·simp only[Value.slice.injEq]at a;exact⟨g,a.1⟩
theorem own_any(sh ca:Int)(A C:Option Addr)(nr no c d:Nat)(rl:List Rc)(bk:Bk)(w:World)(hsh:Hid (sh=bk.sh∧ca=bk.ca))(hnr:Hid (nr=bk.rows.length))(hno:Hid (no=bk.op.length))(hm:Hid (Bm w A C rl bk))(hf:Hid (FewB bk)):
  Calls Tryz.prog 126 #[.agg #[.int .i64 sh,.int .i64 ca,.slice A nr c,.slice C no d]] w (MadeBo bk w):=by
 have aA:nr≤1000:=by rw[hnr.o];exact hf.o.rl
 have aB:no≤1000:=by rw[hno.o];exact hf.o.ol
 have b0:=κ (γ w (.cells (vB sh ca A nr c C no d) 181) (.cells (vB 0 0 none 0 0 none 0 0) 181));have K0:=κ ((Blk.fresh w 181 (vB sh ca A nr c C no d)).alloc (.cells (vB 0 0 none 0 0 none 0 0) 181));have R0:=κ (δ (w.alloc (.cells (vB sh ca A nr c C no d) 181)) 181 (vB 0 0 none 0 0 none 0 0) (w.heap.size+1));have P:Hid (rl.length=nr):=by show _=_;rw[hnr.o];exact hm.o.len
 have am:Hid (∀i,i<nr→(gC rl i).r.ns.length≤1000):=fun i hi=>by
  rw[gC_row hm.o.e (by rw[P.o];exact hi)];exact hf.o.nl i (by rw[←hnr.o];exact hi)
 go_enter Tryz.func126,Tryz.ntmps126
 go_upto_region 1 with fail
 generalize ((w.alloc (.cells (vB sh ca A nr c C no d) 181)).alloc (.cells (vB 0 0 none 0 0 none 0 0) 181))=w0 at b0 K0 R0 ⊢;obtain⟨gB,Z⟩:=ν w.heap.size;obtain⟨gR,aa⟩:=ν (w.heap.size+1);have ai:gB≠gR:=by omega
 have U:Hid (w.heap.size≤gB):=by show _≤_;omega
 have an:Hid (w.heap.size≤gR):=by show _≤_;omega
 have K1:=κ (ζ Z K0.o);have R1:=κ (ζ aa R0.o);simp only[←aa];simp only[←Z];clear Z aa K0 R0;have z:=κ b0.o.size;obtain⟨E,F,G,H⟩:=q4_of K1.o
 go_wp2_with fail
 refine(cloneE C no d bk.op _ hno (Rd.below' hm.o.o b0.o b0.o.size) (by omega)).mono ?_;rintro e w1 ⟨q,s,rfl,m,h⟩;have I:=κ (own_mono m z.o);have J:=κ (below_step b0.o h);have K:=κ (Blk.below' K1.o h);have R2:=κ (Blk.below' R1.o h);clear E F G H m h K1 R1 b0 z;obtain⟨E,F,G,H,f0,f1,f2,f3⟩:=z4_of K.o;have K3:=κ (ξ (blk_st K.o 3 (.slice q no s)));have R3:Hid (Blk (w1.setCell (α gB 3) (.slice q no s)) gR 181 (vB 0 0 none 0 0 none 0 0)):=far_st R2.o (fun e=>ai e.symm) _;have ab:Hid ((w1.setCell (α gB 3) (.slice q no s)).ownsRow w.heap.size 203 11 (.slice q no s) no (ens bk.op)):=own_st I.o K.o (by decide) 3 _;have y:Hid (Below w.heap.size w (w1.setCell (α gB 3) (.slice q no s))):=J.o.setCell (p:=(α gB 3)) U.o _
 go_upto_region 2 with fail
 clear E F G H f0 f1 f2 f3 I J K R2;generalize w1.setCell (α gB 3) (.slice q no s)=w2 at K3 R3 ab y ⊢;obtain⟨E,F,G,H,f0,f1,f2,f3⟩:=z4_of K3.o;have z:=κ y.o.size
 go_wp2_with fail
 refine(cloneR A nr c rl _ (by show _=_;rw[P.o]) (Rd.below' hm.o.r y.o y.o.size) (by omega)).mono ?_;rintro e w3 ⟨L,t,rfl,m,h⟩;have aj:=κ (own_mono m z.o);have I:=own_below ab.o h;have J:=κ (below_step y.o h);have K:=κ (Blk.below' K3.o h);have R2:=κ (Blk.below' R3.o h);clear E F G H f0 f1 f2 f3 m h K3 R3 y ab z;obtain⟨E,F,G,H,f0,f1,f2,f3⟩:=z4_of K.o
 have a:Hid (Oi w w.heap.size (w3.setCell (α gB 2) (.slice L nr t)) gB gR sh ca L q nr t no s rl rl bk.rows bk.op 0):=
  ⟨blk_st K.o 2 _,far_st R2.o (fun e=>ai e.symm) _,own_st aj.o K.o (by decide) 2 _,own_st I.o K.o (by decide) 2 _,P.o,hm.o.e,fun _ _=>rfl,fun k hk=>by omega,fun j k _ hk=>by omega,J.o.setCell (p:=⟨gB,2,none⟩) U.o _⟩
 go_upto_region 3 with fail
 clear E F G H f0 f1 f2 f3 aj I J K R2;generalize w3.setCell (α gB 2) (.slice L nr t)=w4 at a ⊢;obtain⟨E,F,G,H⟩:=q4_of a.o.kB
 go_wp2_with fail
 clear E F G H
 go_loopg [16] nr (fun g ao Q=> ∃(i:Nat) (f:List Rc),i+g=nr∧ao= ι i∧Hid (Oi w w.heap.size Q gB gR sh ca L q nr t no s rl f bk.rows bk.op i))
 case atStart=>exact⟨0,rl,by omega,rfl,a⟩
 case round=>
  clear a;obtain⟨i,f,hi,rfl,a⟩:=hrel;by_cases hlt:i<nr
  ·obtain⟨g,rfl⟩: ∃g,gk=g+1:=⟨gk-1,by omega⟩;have t0:decide ((i:Int)<(nr:Int))=true:=by simp;omega
   obtain⟨O,aq⟩:=own_at a.o.r (by omega);subst aq;have S:i<f.length:=by rw[a.o.len];exact hlt
   obtain⟨aC,aD,aE,aF,ar,l⟩:=own_room a.o.r;have c0:=l (i*3) _ (by have:=rcs_get f i 0 S (by decide);exact this);have c1:=l (i*3+1) _ (by have:=rcs_get f i 1 S (by decide);exact this);have c2:=l (i*3+2) _ (by have:=rcs_get f i 2 S (by decide);exact this);rw[a.o.old i τ]at c0 c1 c2;have HL:=κ (am.o i hlt);have HN:Hid (∀Q,Below w.heap.size w Q→Ris Q Q.heap.size (gC rl i).A (gC rl i).r.ns):=fun Q hb=>Rd.below' (hm.o.n i (by rw[P.o];exact hlt)) hb hb.size
   obtain⟨R,hR⟩:=ν (gC rl i);rw[←hR]at c0 c1 c2 HL HN;have HR:=κ hR;clear hR ar l;obtain⟨V,W,ns,ac,ad⟩:=R;simp only[]at HL HN;obtain⟨nn,ae⟩:=ν ns.length;have T:=κ ae;have au:wr.cell? (α O (i*3))=some (.slice V nn W):=by rw[ae];exact c0
   have av:=χ c1;have aw:=χ c2;clear c0 c1 c2 ae;have bA:=κ (β wr (.cells (vR V nn W ac ad) 243));have KA:=κ (Blk.fresh wr 243 (vR V nn W ac ad));have KB:=κ (Blk.below' a.o.kB bA.o)
   go_upto_region 6 with fail
   clear au av aw;generalize wr.alloc (.cells (vR V nn W ac ad) 243)=w5 at bA KA KB ⊢;have ax:O≠gB:=fun e=>blk_own_ne a.o.kB a.o.r (by decide) (by rw[e];rfl)
   have X:O≠wr.heap.size:=by omega
   have HG:=κ a.o.b.size;generalize ak:wr.heap.size=g4 at KA X ⊢;have aG:=κ ak;clear ak;have bD:=(below_step a.o.b bA.o).drew;have bE:=κ bA.o.drew;obtain⟨E,F,G,H⟩:=q4_of KB.o;obtain⟨m0,m1,m2⟩:=q3_of KA.o
   go_region_held3 (fun Q=>Q.cell? ⟨gB,2,none⟩=some (.slice (some ⟨O,0,none⟩) nr t)∧Q.cell? ⟨g4,0,none⟩=some (.slice V nn W))
    (first|go_keep|(exact⟨q1,p1⟩)|(exact⟨q2 _,p2 _⟩))
    (first
     |(go_at_call 155;refine(cloneI V nn W ns _ T (HN.o _ (by assumption)) (by have:=HL.o;have:=T.o;omega)).mono ?_;rintro e w6 ⟨A5,c5,rfl,ay,af⟩;have bF:=κ (below_step bE.o af);have ag:=own_room (own_below a.o.r bF.o);have c6:=ag.2.2.2.2.2 (i*3) _ (by have:=rcs_get f i 0 S (by decide);exact this);have aH:=(ag.2.2.2.2.1 (i*3) (by omega)).2;clear ag;have q1:w6.cell? ⟨gB,2,none⟩=some (.slice (some ⟨O,0,none⟩) nr t):=cell_later af (by assumption);have p1:w6.cell? ⟨g4,0,none⟩=some (.slice V nn W):=cell_later af (by assumption);have q2: ∀x,(w6.setCell ⟨O,i*3,none⟩ x).cell? ⟨gB,2,none⟩=some (.slice (some ⟨O,0,none⟩) nr t):=fun x=>(World.cell?_setCell_other _ _ _ _ (by intro e;injection e with e;exact ax e)).trans q1;have p2: ∀x,(w6.setCell ⟨O,i*3,none⟩ x).cell? ⟨g4,0,none⟩=some (.slice V nn W):=fun x=>(World.cell?_setCell_other _ _ _ _ (by intro e;injection e with e;exact X e)).trans p1))
   have az:Hid (Oi w w.heap.size (w6.setCell (α O (i*3)) (.slice A5 nn c5)) gB gR sh ca (some (α O 0)) q nr t no s rl (f.set i ⟨A5,c5,⟨(gC rl i).r.ns,(gC f i).r.sec,(gC f i).r.cnt⟩⟩) bk.rows bk.op (i+1)):=by
    have ah:(gC rl i).r.ns=ns:=by rw[←HR.o]
    have:=Oi.step a.o hlt rfl bF.o τ a.o.b.size (A5:=A5) (c5:=c5) (by rw[ah,←T.o];exact own_mono ay bE.o.size);rw[ah,←T.o]at this;rw[ah];exact this
   go_wp2_with fail
   go_roundg g
   case measure=>omega
   case rel=>exact⟨i+1,_,by omega,by rw[Int.natCast_add];rfl,az⟩
  ·have t0:decide ((i:Int)<(nr:Int))=false:=by simp;omega
   have al:i=nr:=by omega
   obtain⟨E,F,G,H⟩:=q4_of a.o.kB;obtain⟨z0,z1,z2,z3,f0,f1,f2,f3⟩:=z4_of a.o.kR;have F3:Blk (st4 wr gR (ι sh) (ι ca) (.slice L nr t) (.slice q no s)) gR 181 (vB sh ca L nr t q no s):=st4_blk a.o.kR
   have Y:MadeBo bk w (.returned (.agg (vB sh ca L nr t q no s))) (st4 wr gR (ι sh) (ι ca) (.slice L nr t) (.slice q no s)):=by
    refine⟨L,q,t,s,f,?_,⟨?_,?_,a.o.e,?_,?_⟩,st4_below a.o.b an.o⟩
    ·unfold bkA;rw[←hnr.o,←hno.o,←hsh.o.1,←hsh.o.2]
    ·rw[←hnr.o];exact own_st4 a.o.r a.o.kR (by decide)
    ·rw[←hno.o];exact own_st4 a.o.o a.o.kR (by decide)
    ·intro k hk;exact own_st4 (a.o.own k (by rw[a.o.len]at hk;omega)) a.o.kR (by decide)
    ·rw[a.o.len,←al];exact a.o.ap
   have HF:=κ Y;clear Y a al
   go_wp2_with fail
   obtain⟨d0,d1,d2,d3⟩:=q4_of F3;clear F3;unfold st4 at d0 d1 d2 d3 HF;exact bodyPost_ret (v:= .agg #[ι sh,ι ca,.slice L nr t,.slice q no s]) (by simp[results,Tryz.results126,go_sem,d0,d1,d2,d3]) rfl HF.o
end Bko
end Go.Proofs.YtcccdikhfgpamaaGreat
