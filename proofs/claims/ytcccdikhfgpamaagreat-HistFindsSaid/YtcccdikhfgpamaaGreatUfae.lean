/- Texts side by side. -/
import Derived.Test.YtcccdikhfgpamaaGreatUfad
set_option linter.unusedVariables false
set_option linter.unusedSimpArgs false
set_option maxRecDepth 100000
set_option maxHeartbeats 16000000
namespace Go.Proofs.YtcccdikhfgpamaaGreat
open Kap Go.ChangeShapes Go.WideShapes Go.RowKit Mem
namespace Bks
open Tre Ref3 Law3 Bkp
def inQ(n:Nat)(k:Int):Bool:=decide (0≤k∧k<n)
variable {id k:Int} {l:List En} {n:Nat}
theorem inQ_t(h:0≤k)(h':k<n):inQ n k=true:=by unfold inQ;simp[h,h']
theorem inQ_f(h:k<0∨n≤k):inQ n k=false:=by unfold inQ;simp;omega
theorem inQ_of(h:inQ n k=true):0≤k∧k<n:=by unfold inQ at h;simpa using h
def posE:List En→Int→Nat
 |[],_=>0
 |e :: l,id=>if e.id=id then 0 else posE l id+1
theorem posE_at(l:List En)(id:Int)(i:Nat)(h: ∀j,j<i→(gE l j).id≠id)(hi:i<l.length)(he:(gE l i).id=id):posE l id=i:=by
 induction l generalizing i with
 |nil=>simp at hi
 |cons e l ih=>
  unfold posE;cases i with
  |zero=>rw[if_pos (by simpa[gE] using he)]
  |succ i=>
   rw[if_neg (by have:=h 0 (by omega);simpa[gE] using this)];rw[ih i (fun j a=>by have:=h (j+1) (by omega);simpa[gE] using this) (by simpa using hi) (by simpa[gE] using he)]
theorem posE_none(l:List En)(id:Int)(h: ∀j,j<l.length→(gE l j).id≠id):posE l id=l.length:=by
 induction l with
 |nil=>rfl
 |cons e l ih=>
  unfold posE;rw[if_neg (by have:=h 0 (by simp);simpa[gE] using this)];rw[ih (fun j a=>by have:=h (j+1) (by simpa using a);simpa[gE] using this)];simp
def placeF(l:List En)(id:Int):Int:=if posE l id<l.length then (posE l id:Int) else-1
theorem placeF_t(h:posE l id<l.length):placeF l id=posE l id:=by unfold placeF;rw[if_pos h]
theorem placeF_f(h: ¬posE l id<l.length):placeF l id= -1:=by unfold placeF;rw[if_neg h]
def lookF(ra ta:Int)(b:Bk)(o:Od):Int:=
 if inQ b.rows.length o.a=true then
  (if (gR b.rows o.a.toNat).ns.contains o.n=true then 9
   else if o.t<(gR b.rows o.a.toNat).sec then 10
   else if o.t=(gR b.rows o.a.toNat).sec∧ra≤(gR b.rows o.a.toNat).cnt then 10
   else if ta≤b.op.length then 11 else 0)
 else 3
def usedF(r:Ro)(n t wi:Int):Ro:=
 ⟨(r.ns++[n]).drop (r.ns.length+1-(max wi 0).toNat),t,(if r.sec=t then r.cnt else 0)+1⟩
def addF(sk wi:Int)(b:Bk)(o:Od)(ep:Int):Bk:=
 ⟨b.sh,b.ca+1,b.rows.set o.a.toNat (usedF (gR b.rows o.a.toNat) o.n o.t wi),b.op++[⟨b.sh+sk*b.ca,o,o.q,1,ep⟩]⟩
def delE(l:List En)(i:Nat):List En:=l.take i++l.drop (i+1)
def setL(e:En)(x:Int):En:=⟨e.id,e.o,x,e.st,e.ep⟩
def setS(e:En)(x:Int):En:=⟨e.id,e.o,e.lf,x,e.ep⟩
def fillF(b:Bk)(id q:Int):Bk×Int:=
 if q<1 then (b,1)
 else if posE b.op id<b.op.length then
  (if (gE b.op (posE b.op id)).lf<q then (b,17)
   else if (gE b.op (posE b.op id)).lf-q=0 then (⟨b.sh,b.ca,b.rows,delE b.op (posE b.op id)⟩,0)
   else (⟨b.sh,b.ca,b.rows,b.op.set (posE b.op id) (setL (gE b.op (posE b.op id)) ((gE b.op (posE b.op id)).lf-q))⟩,0))
 else (b,15)
def ackF(b:Bk)(id:Int):Bk×Int:=
 if posE b.op id<b.op.length then
  (if (gE b.op (posE b.op id)).st=1 then (b,16) else (⟨b.sh,b.ca,b.rows,delE b.op (posE b.op id)⟩,0))
 else (b,15)
def cancelF(b:Bk)(id:Int):Bk×Int:=
 if posE b.op id<b.op.length then
  (if (gE b.op (posE b.op id)).st=2 then (b,16) else (⟨b.sh,b.ca,b.rows,b.op.set (posE b.op id) (setS (gE b.op (posE b.op id)) 2)⟩,0))
 else (b,15)
structure FewB(b:Bk):Prop where
 rl:b.rows.length≤1000
 ol:b.op.length≤1000
 nl: ∀i,i<b.rows.length→(gR b.rows i).ns.length≤1000
 sh:0≤b.sh∧b.sh≤1000
 ca:0≤b.ca∧b.ca≤1000000000
 cnt: ∀i,i<b.rows.length→0≤(gR b.rows i).cnt∧(gR b.rows i).cnt≤1000000000
 sec: ∀i,i<b.rows.length→inI (gR b.rows i).sec
end Bks
namespace Stk
variable {cs:Array Value} {B g k:Nat} {te:TypeId} {u0 u1 u2 u3 u4 u5 u6 v0 v1 v10 v2 v3 v4 v5 v6 v7 v8 v9:Value} {W w w0:World}
theorem blk_st(h:Blk w g te cs)(i:Nat)(u:Value):Blk (w.setCell ⟨g,i,none⟩ u) g te (cs.setIfInBounds i u):=
 heap_setCell_same w g i cs te u h
theorem far_st{g':Nat}(h:Blk w g te cs)(hne:g≠g'){i:Nat}(u:Value):Blk (w.setCell ⟨g',i,none⟩ u) g te cs:=
 (Below.heap_setCell w ⟨g',i,none⟩ u g hne).trans h
def st2(W:World)(g:Nat)(v0 v1:Value):World:=((W.setCell ⟨g,0,none⟩ v0).setCell ⟨g,1,none⟩ v1)
theorem st2_blk(hk:Blk W g te #[u0,u1]):Blk (st2 W g v0 v1) g te #[v0,v1]:=by
 have a:=ξ (blk_st hk 0 v0);have b:=ξ (blk_st a 1 v1);exact b
theorem st2_below(hb:Below B w0 W)(hg:B≤g):Below B w0 (st2 W g v0 v1):=((hb.setCell (p:=⟨g,0,none⟩) hg v0).setCell (p:=⟨g,1,none⟩) hg v1)
def st3(W:World)(g:Nat)(v0 v1 v2:Value):World:=(((W.setCell ⟨g,0,none⟩ v0).setCell ⟨g,1,none⟩ v1).setCell ⟨g,2,none⟩ v2)
theorem st3_blk(hk:Blk W g te #[u0,u1,u2]):Blk (st3 W g v0 v1 v2) g te #[v0,v1,v2]:=by
 have a:=ξ (blk_st hk 0 v0);have b:=ξ (blk_st a 1 v1);have c:=ξ (blk_st b 2 v2);exact c
theorem z3_of(h:Blk W g te #[v0,v1,v2]):W.cell? ⟨g,0,none⟩=some v0∧W.cell? ⟨g,1,none⟩=some v1∧W.cell? ⟨g,2,none⟩=some v2∧W.frozen? ⟨g,0,none⟩=false∧W.frozen? ⟨g,1,none⟩=false∧W.frozen? ⟨g,2,none⟩=false:=⟨h.cell 0,h.cell 1,h.cell 2,h.thaw 0,h.thaw 1,h.thaw 2⟩
theorem q3_of(h:Blk W g te #[v0,v1,v2]):W.cell? ⟨g,0,none⟩=some v0∧W.cell? ⟨g,1,none⟩=some v1∧W.cell? ⟨g,2,none⟩=some v2:=⟨h.cell 0,h.cell 1,h.cell 2⟩
def st4(W:World)(g:Nat)(v0 v1 v2 v3:Value):World:=((((W.setCell ⟨g,0,none⟩ v0).setCell ⟨g,1,none⟩ v1).setCell ⟨g,2,none⟩ v2).setCell ⟨g,3,none⟩ v3)
theorem st4_blk(hk:Blk W g te #[u0,u1,u2,u3]):Blk (st4 W g v0 v1 v2 v3) g te #[v0,v1,v2,v3]:=by
 have a:=ξ (blk_st hk 0 v0);have b:=ξ (blk_st a 1 v1);have c:=ξ (blk_st b 2 v2);have d:=ξ (blk_st c 3 v3);exact d
theorem st4_below(hb:Below B w0 W)(hg:B≤g):Below B w0 (st4 W g v0 v1 v2 v3):=((((hb.setCell (p:=⟨g,0,none⟩) hg v0).setCell (p:=⟨g,1,none⟩) hg v1).setCell (p:=⟨g,2,none⟩) hg v2).setCell (p:=⟨g,3,none⟩) hg v3)
theorem st4_far(h:Blk W k te cs)(hne:k≠g):Blk (st4 W g v0 v1 v2 v3) k te cs:=by
 unfold st4;exact(far_st (far_st (far_st (far_st h hne v0) hne v1) hne v2) hne v3)
theorem z4_of(h:Blk W g te #[v0,v1,v2,v3]):W.cell? ⟨g,0,none⟩=some v0∧W.cell? ⟨g,1,none⟩=some v1∧W.cell? ⟨g,2,none⟩=some v2∧W.cell? ⟨g,3,none⟩=some v3∧W.frozen? ⟨g,0,none⟩=false∧W.frozen? ⟨g,1,none⟩=false∧W.frozen? ⟨g,2,none⟩=false∧W.frozen? ⟨g,3,none⟩=false:=⟨h.cell 0,h.cell 1,h.cell 2,h.cell 3,h.thaw 0,h.thaw 1,h.thaw 2,h.thaw 3⟩
theorem q4_of(h:Blk W g te #[v0,v1,v2,v3]):W.cell? ⟨g,0,none⟩=some v0∧W.cell? ⟨g,1,none⟩=some v1∧W.cell? ⟨g,2,none⟩=some v2∧W.cell? ⟨g,3,none⟩=some v3:=⟨h.cell 0,h.cell 1,h.cell 2,h.cell 3⟩
def st7(W:World)(g:Nat)(v0 v1 v2 v3 v4 v5 v6:Value):World:=(((((((W.setCell ⟨g,0,none⟩ v0).setCell ⟨g,1,none⟩ v1).setCell ⟨g,2,none⟩ v2).setCell ⟨g,3,none⟩ v3).setCell ⟨g,4,none⟩ v4).setCell ⟨g,5,none⟩ v5).setCell ⟨g,6,none⟩ v6)
theorem st7_blk(hk:Blk W g te #[u0,u1,u2,u3,u4,u5,u6]):Blk (st7 W g v0 v1 v2 v3 v4 v5 v6) g te #[v0,v1,v2,v3,v4,v5,v6]:=by
 have a:=ξ (blk_st hk 0 v0);have b:=ξ (blk_st a 1 v1);have c:=ξ (blk_st b 2 v2);have d:=ξ (blk_st c 3 v3);have e:=ξ (blk_st d 4 v4);have f:=ξ (blk_st e 5 v5);have h:=ξ (blk_st f 6 v6);exact h
theorem st7_below(hb:Below B w0 W)(hg:B≤g):Below B w0 (st7 W g v0 v1 v2 v3 v4 v5 v6):=(((((((hb.setCell (p:=⟨g,0,none⟩) hg v0).setCell (p:=⟨g,1,none⟩) hg v1).setCell (p:=⟨g,2,none⟩) hg v2).setCell (p:=⟨g,3,none⟩) hg v3).setCell (p:=⟨g,4,none⟩) hg v4).setCell (p:=⟨g,5,none⟩) hg v5).setCell (p:=⟨g,6,none⟩) hg v6)
theorem st7_far(h:Blk W k te cs)(hne:k≠g):Blk (st7 W g v0 v1 v2 v3 v4 v5 v6) k te cs:=by
 unfold st7;exact(far_st (far_st (far_st (far_st (far_st (far_st (far_st h hne v0) hne v1) hne v2) hne v3) hne v4) hne v5) hne v6)
theorem z7_of(h:Blk W g te #[v0,v1,v2,v3,v4,v5,v6]):W.cell? ⟨g,0,none⟩=some v0∧W.cell? ⟨g,1,none⟩=some v1∧W.cell? ⟨g,2,none⟩=some v2∧W.cell? ⟨g,3,none⟩=some v3∧W.cell? ⟨g,4,none⟩=some v4∧W.cell? ⟨g,5,none⟩=some v5∧W.cell? ⟨g,6,none⟩=some v6∧W.frozen? ⟨g,0,none⟩=false∧W.frozen? ⟨g,1,none⟩=false∧W.frozen? ⟨g,2,none⟩=false∧W.frozen? ⟨g,3,none⟩=false∧W.frozen? ⟨g,4,none⟩=false∧W.frozen? ⟨g,5,none⟩=false∧W.frozen? ⟨g,6,none⟩=false:=⟨h.cell 0,h.cell 1,h.cell 2,h.cell 3,h.cell 4,h.cell 5,h.cell 6,h.thaw 0,h.thaw 1,h.thaw 2,h.thaw 3,h.thaw 4,h.thaw 5,h.thaw 6⟩
theorem q7_of(h:Blk W g te #[v0,v1,v2,v3,v4,v5,v6]):W.cell? ⟨g,0,none⟩=some v0∧W.cell? ⟨g,1,none⟩=some v1∧W.cell? ⟨g,2,none⟩=some v2∧W.cell? ⟨g,3,none⟩=some v3∧W.cell? ⟨g,4,none⟩=some v4∧W.cell? ⟨g,5,none⟩=some v5∧W.cell? ⟨g,6,none⟩=some v6:=⟨h.cell 0,h.cell 1,h.cell 2,h.cell 3,h.cell 4,h.cell 5,h.cell 6⟩
def st11(W:World)(g:Nat)(v0 v1 v2 v3 v4 v5 v6 v7 v8 v9 v10:Value):World:=(((((((((((W.setCell ⟨g,0,none⟩ v0).setCell ⟨g,1,none⟩ v1).setCell ⟨g,2,none⟩ v2).setCell ⟨g,3,none⟩ v3).setCell ⟨g,4,none⟩ v4).setCell ⟨g,5,none⟩ v5).setCell ⟨g,6,none⟩ v6).setCell ⟨g,7,none⟩ v7).setCell ⟨g,8,none⟩ v8).setCell ⟨g,9,none⟩ v9).setCell ⟨g,10,none⟩ v10)
theorem st11_blk{u7 u8 u9 u10:Value}(hk:Blk W g te #[u0,u1,u2,u3,u4,u5,u6,u7,u8,u9,u10]):Blk (st11 W g v0 v1 v2 v3 v4 v5 v6 v7 v8 v9 v10) g te #[v0,v1,v2,v3,v4,v5,v6,v7,v8,v9,v10]:=by
 have b:=ξ (blk_st hk 0 v0);have c:=ξ (blk_st b 1 v1);have d:=ξ (blk_st c 2 v2);have e:=ξ (blk_st d 3 v3);have f:=ξ (blk_st e 4 v4);have h:=ξ (blk_st f 5 v5);have i:=ξ (blk_st h 6 v6);have j:=ξ (blk_st i 7 v7);have l:=ξ (blk_st j 8 v8);have m:=ξ (blk_st l 9 v9);have a:=ξ (blk_st m 10 v10);exact a
theorem st11_below(hb:Below B w0 W)(hg:B≤g):Below B w0 (st11 W g v0 v1 v2 v3 v4 v5 v6 v7 v8 v9 v10):=(((((((((((hb.setCell (p:=⟨g,0,none⟩) hg v0).setCell (p:=⟨g,1,none⟩) hg v1).setCell (p:=⟨g,2,none⟩) hg v2).setCell (p:=⟨g,3,none⟩) hg v3).setCell (p:=⟨g,4,none⟩) hg v4).setCell (p:=⟨g,5,none⟩) hg v5).setCell (p:=⟨g,6,none⟩) hg v6).setCell (p:=⟨g,7,none⟩) hg v7).setCell (p:=⟨g,8,none⟩) hg v8).setCell (p:=⟨g,9,none⟩) hg v9).setCell (p:=⟨g,10,none⟩) hg v10)
theorem z11_of(h:Blk W g te #[v0,v1,v2,v3,v4,v5,v6,v7,v8,v9,v10]):W.cell? ⟨g,0,none⟩=some v0∧W.cell? ⟨g,1,none⟩=some v1∧W.cell? ⟨g,2,none⟩=some v2∧W.cell? ⟨g,3,none⟩=some v3∧W.cell? ⟨g,4,none⟩=some v4∧W.cell? ⟨g,5,none⟩=some v5∧W.cell? ⟨g,6,none⟩=some v6∧W.cell? ⟨g,7,none⟩=some v7∧W.cell? ⟨g,8,none⟩=some v8∧W.cell? ⟨g,9,none⟩=some v9∧W.cell? ⟨g,10,none⟩=some v10∧W.frozen? ⟨g,0,none⟩=false∧W.frozen? ⟨g,1,none⟩=false∧W.frozen? ⟨g,2,none⟩=false∧W.frozen? ⟨g,3,none⟩=false∧W.frozen? ⟨g,4,none⟩=false∧W.frozen? ⟨g,5,none⟩=false∧W.frozen? ⟨g,6,none⟩=false∧W.frozen? ⟨g,7,none⟩=false∧W.frozen? ⟨g,8,none⟩=false∧W.frozen? ⟨g,9,none⟩=false∧W.frozen? ⟨g,10,none⟩=false:=⟨h.cell 0,h.cell 1,h.cell 2,h.cell 3,h.cell 4,h.cell 5,h.cell 6,h.cell 7,h.cell 8,h.cell 9,h.cell 10,h.thaw 0,h.thaw 1,h.thaw 2,h.thaw 3,h.thaw 4,h.thaw 5,h.thaw 6,h.thaw 7,h.thaw 8,h.thaw 9,h.thaw 10⟩
theorem q11_of(h:Blk W g te #[v0,v1,v2,v3,v4,v5,v6,v7,v8,v9,v10]):W.cell? ⟨g,0,none⟩=some v0∧W.cell? ⟨g,1,none⟩=some v1∧W.cell? ⟨g,2,none⟩=some v2∧W.cell? ⟨g,3,none⟩=some v3∧W.cell? ⟨g,4,none⟩=some v4∧W.cell? ⟨g,5,none⟩=some v5∧W.cell? ⟨g,6,none⟩=some v6∧W.cell? ⟨g,7,none⟩=some v7∧W.cell? ⟨g,8,none⟩=some v8∧W.cell? ⟨g,9,none⟩=some v9∧W.cell? ⟨g,10,none⟩=some v10:=⟨h.cell 0,h.cell 1,h.cell 2,h.cell 3,h.cell 4,h.cell 5,h.cell 6,h.cell 7,h.cell 8,h.cell 9,h.cell 10⟩
end Stk
namespace CrdB
open Abv Go.ChangeAt Tre Ref3 Law3 Crd
def MadeOwnSt(l:List (Int×Int))(u:List Int)(w:World)(e:Ending)(w':World):Prop:=
 ∃A c A' c',e= .returned (.agg #[.slice A l.length c,.slice A' u.length c'])∧OwnN w.heap.size w' A c l∧OwnI w.heap.size w' A' c' u∧Below w.heap.size w w'
variable {w:World}
theorem below_step{a b c:World}(h:Below a.heap.size a b)(k:Below b.heap.size b c):Below a.heap.size a c:=h.trans (k.mono h.size)
theorem own_mono{base base':Nat}{e:TypeId}{size n:Nat}{v:Value}{xs:List Value}(h:w.ownsRow base e size v n xs)(hb:base'≤base):w.ownsRow base' e size v n xs:=by
 refine⟨h.1,?_⟩;rcases h.2 with h2|⟨g,cap,cur,hv,hg,r⟩
 ·exact .inl h2
 ·exact .inr ⟨g,cap,cur,hv,by omega,r⟩
theorem blk_set{g:Nat}{te:TypeId}{cs:Array Value}(h:Blk w g te cs)(i:Nat)(u:Value):Blk (w.setCell ⟨g,i,none⟩ u) g te (cs.setIfInBounds i u):=by
 unfold Blk at h ⊢;simp[World.setCell,Array.getElem?_modify,h]
theorem own_any(A A':Option Addr)(c c':Nat)(l:List (Int×Int))(u:List Int)(w:World)(hl:Hid (Nds w w.heap.size A l))(hu:Hid (Ris w w.heap.size A' u))(hmax:(l.length:Int)≤1000000)(hmay:(u.length:Int)≤1000000):
  Calls Tryz.prog 133 #[.agg #[.slice A l.length c,.slice A' u.length c']] w (MadeOwnSt l u w):=by
 have C:Hid (∀W,Below w.heap.size w W→Nds W W.heap.size A l):=fun W k=>Rd.below' hl.o k k.size
 have E:Hid (∀W,Below w.heap.size w W→Ris W W.heap.size A' u):=fun W k=>Rd.below' hu.o k k.size
 have O:Below w.heap.size w (((w.alloc (.cells (vS A l.length c A' u.length c') 142)).alloc (.cells (vS none 0 0 none 0 0) 142)).drew):=((ψ.alloc τ _).alloc (by simp) _).drew;have d:Blk (((w.alloc (.cells (vS A l.length c A' u.length c') 142)).alloc (.cells (vS none 0 0 none 0 0) 142)).drew) w.heap.size 142 (vS A l.length c A' u.length c'):=(Blk.fresh w _ _).alloc _
 have f:Blk (((w.alloc (.cells (vS A l.length c A' u.length c') 142)).alloc (.cells (vS none 0 0 none 0 0) 142)).drew) (w.heap.size+1) 142 (vS none 0 0 none 0 0):=by
  have:=Blk.fresh (w.alloc (.cells (vS A l.length c A' u.length c') 142)) 142 (vS none 0 0 none 0 0);simp only[World.size_alloc]at this;exact this
 have P:=χ (d.cell 0);have Q:=χ (d.cell 1);have R:=κ d;have S:=κ f;clear d f
 go_enter Tryz.func133,Tryz.ntmps133
 go_wp2_with fail
 go_region_held3 (fun r=>r.cell? ⟨w.heap.size,0,none⟩=some (.slice A l.length c)∧r.cell? ⟨w.heap.size,1,none⟩=some (.slice A' u.length c'))
  (first|go_keep|(exact⟨F,G⟩)|(exact⟨H,I⟩))
  (first
   |(go_at_call 113;refine(cloneN_any _ _ l _ (C.o _ (by assumption)) hmax).mono ?_;rintro e J ⟨g,h,rfl,m,a⟩;have T:=below_step (by assumption) a;have F:J.cell? ⟨w.heap.size,0,none⟩=some (.slice A l.length c):=cell_later a (by assumption);have G:=cell_later a (by assumption);have d:=κ (Blk.below' (Hid.o (by assumption)) a);have U:=χ (d.o.cell 0);have V:=χ (d.o.cell 1);have X:=d.o.thaw 0;have Y:=d.o.thaw 1)
   |(go_at_call 155;refine(cloneI_any _ _ u _ (E.o _ (by assumption)) hmay).mono ?_;rintro e n ⟨i,j,rfl,o,b⟩;have K:=below_step (by assumption) b;have H:n.cell? ⟨w.heap.size,0,none⟩=some (.slice A l.length c):=cell_later b (by assumption);have I:n.cell? ⟨w.heap.size,1,none⟩=some (.slice A' u.length c'):=cell_later b (by assumption);have f:=κ (Blk.below' (Hid.o (by assumption)) b);have Z:=χ (f.o.cell 0);have s2:=χ (f.o.cell 1);have y2:=f.o.thaw 0;have z2:=f.o.thaw 1))
 ·have s:(n.setCell (α (w.heap.size+1) 0) (.slice g l.length h)).setCell (α (w.heap.size+1) 1) (.slice i u.length j) |>.ownsRow w.heap.size 151 2 (.slice g l.length h) l.length (nds l):=
   own_mono (ownsRow_setCell_below (ownsRow_setCell_below (own_mono (base':=w.heap.size+2) (own_below m b).o (by simp[World.drew])) (by simp) _) (by simp) _) (by omega)
  have t:(n.setCell (α (w.heap.size+1) 0) (.slice g l.length h)).setCell (α (w.heap.size+1) 1) (.slice i u.length j) |>.ownsRow w.heap.size 2 1 (.slice i u.length j) u.length (ints u):=
   own_mono (ownsRow_setCell_below (ownsRow_setCell_below (own_mono (base':=w.heap.size+2) o (by have:=a.size;simp[World.drew]at this;omega)) (by simp) _) (by simp) _) (by omega)
  have L:Below w.heap.size w ((n.setCell (α (w.heap.size+1) 0) (.slice g l.length h)).setCell (α (w.heap.size+1) 1) (.slice i u.length j)):=(K.setCell (by simp) _).setCell (by simp) _;have p:=κ s;have q:=κ t;clear s t m o
  go_wp2_with fail
  have x:=blk_set (blk_set f.o 0 (.slice g l.length h)) 1 (.slice i u.length j);have y:=x.cell 0;have z:=x.cell 1;simp at y z;exact bodyPost_ret (v:= .agg #[.slice g l.length h,.slice i u.length j]) (by simp[results,Tryz.results133,go_sem,y,z]) rfl ⟨g,h,i,j,rfl,p.o,q.o,L⟩
end CrdB
namespace CrdC
open Abv Go.ChangeAt Tre Ref3 Law3 Crd CrdB
variable {l:List (Int×Int)} {u:List Int} {w:World}
def zeros(n:Nat):List Int:=List.replicate n 0
theorem zeros_len(n:Nat):(zeros n).length=n:=by simp[zeros]
theorem made_zeros(n:Nat):(madeCells (Value.int .i64 0).cells n).toList=ints (zeros n):=by
 refine List.ext_getElem? fun i=>?_
 by_cases h:i<n
 ·have e:(madeCells (Value.int .i64 0).cells n)[i]? =some (Value.int .i64 0):=by
   unfold madeCells;simp[h,Value.cells];exact Nat.mod_one i ▸ rfl
  simp[ints,zeros,h,e]
 ·simp[ints,zeros,madeCells,h]
theorem blk_far{g:Nat}{te:TypeId}{cs:Array Value}(h:Blk w g te cs){p:Addr}(hp:g≠p.block)(u:Value):Blk (w.setCell p u) g te cs:=(Below.heap_setCell w p u g hp).trans h
def maxC(x:Int):Bool:=decide (0≤x)&&decide (x≤4611686018427387904)
def rightF(l:List (Int×Int))(u:List Int):Bool:=decide ((chk l).1=0)&&decide (u.length=l.length)&&u.all maxC
def UOk(u:List Int):Prop:= ∀i,i<u.length→0≤gI u i∧gI u i≤4611686018427387904
theorem all_of(h:UOk u):u.all maxC=true:=by
 simp only[List.all_eq_true];intro x b;obtain⟨i,a,rfl⟩:=List.getElem_of_mem b;have:=h i a;simp[gI,a]at this;simp[maxC,this]
theorem all_not{i:Nat}(hi:i<u.length)(h:gI u i<0∨4611686018427387904<gI u i):u.all maxC=false:=by
 rw[List.all_eq_false];refine⟨u[i],List.getElem_mem hi,?_⟩;simp[gI,hi]at h;simp[maxC];omega
theorem rightF_c(h: ¬(chk l).1=0):rightF l u=false:=by simp[rightF,h]
theorem rightF_l(h: ¬u.length=l.length):rightF l u=false:=by simp[rightF,h]
theorem rightF_a(h:u.all maxC=false):rightF l u=false:=by unfold rightF;rw[h,Bool.and_false]
theorem rightF_t(h:(chk l).1=0)(h':u.length=l.length)(h'':UOk u):rightF l u=true:=by
 simp only[rightF,all_of h'',h,h'];rfl
theorem right_any(A A':Option Addr)(c c':Nat)(l:List (Int×Int))(u:List Int)(w:World)(hl:Hid (Nds w w.heap.size A l))(hu:Hid (Ris w w.heap.size A' u))(hw:Hid (WfN l))(hwu:Hid (WfI u))(hmax:(l.length:Int)≤1000000)(hmay:(u.length:Int)≤1000000):
  Calls Tryz.prog 159 #[.agg #[.slice A l.length c,.slice A' u.length c']] w (MadeB (rightF l u) w):=by
 have n:=β w (.cells (vS A l.length c A' u.length c') 142);have r:=θ hl.o n;have u0:=η hu.o n;have s:=κ (Blk.fresh w 142 (vS A l.length c A' u.length c'))
 go_enter Tryz.func159,Tryz.ntmps159
 go_wp2_with fail
 refine(check_any A c l _ r.o hw (by omega)).mono ?_;rintro e v ⟨rfl,a⟩;have j:=below_step n a;have t:=κ (Blk.below' s.o a);have u1:=η u0.o a;have J:=χ (t.o.cell 0);have K:=χ (t.o.cell 1);clear n r u0 s a;by_cases hc:(chk l).1=0
 ·have x:((chk l).1 != 0)=false:=by simp[hc]
  have y:((chk l).1==0)=true:=by simp[hc]
  by_cases hn:u.length=l.length
  ·have z:((u.length:Int) != (l.length:Int))=false:=by simp;omega
   have C:((u.length:Int)==(l.length:Int))=true:=by simp;omega
   have E:=κ hc;have F:=κ hn;clear hc hn
   go_wp2_with fail
   go_loopg [27] u.length (fun g p G=> ∃k:Nat,k+g=u.length∧p= ι k∧Hid (∀i,i<k→0≤gI u i∧gI u i≤4611686018427387904)∧v=G)
   case atStart=>exact⟨0,by omega,rfl,fun i q=>absurd q (Nat.not_lt_zero i),rfl⟩
   case round=>
    obtain⟨k,L,rfl,d,rfl⟩:=hrel;by_cases hlt:(k:Int)<(u.length:Int)
    ·obtain⟨g,rfl⟩: ∃g,gk=g+1:=⟨gk-1,by omega⟩;obtain⟨b,o,rfl,O,m⟩:=Ris.at (i:=k) u1.o (by omega);have P:=m k (by omega);obtain⟨Q,R⟩:=hwu.o k (by omega);clear m;by_cases h0:0≤gI u k∧gI u k≤4611686018427387904
     ·have h:Hid (∀i,i<k+1→0≤gI u i∧gI u i≤4611686018427387904):=fun i q=>by
       by_cases e:i=k
       ·subst e;exact h0
       ·exact d.o i (by omega)
      obtain⟨H,I⟩:=h0
      go_wp2_with fail
      go_roundg g
      case measure=>omega
      case rel=>exact⟨k+1,by omega,by go_num,h,rfl⟩
     ·have f:=κ (rightF_a (l:=l) (u:=u) (all_not (u:=u) (i:=k) (by omega) (by omega)));by_cases H:gI u k<0
      ·clear h0
       go_wp2_with fail
       go_ret;exact madeB_mk f.o j
      ·have I:4611686018427387904<gI u k:=by omega
       clear h0
       go_wp2_with fail
       go_ret;exact madeB_mk f.o j
    ·have f:=κ (rightF_t (l:=l) (u:=u) E.o F.o (fun i q=>d.o i (by omega)))
     go_wp2_with fail
     go_ret;exact madeB_mk f.o j
  ·have z:((u.length:Int) != (l.length:Int))=true:=by simp;omega
   have C:((u.length:Int)==(l.length:Int))=false:=by simp;omega
   have f:=κ (rightF_l (l:=l) (u:=u) hn);clear hn hc
   go_wp2_with fail
   go_ret;exact madeB_mk f.o j
 ·have x:((chk l).1 != 0)=true:=by simp[hc]
  have y:((chk l).1==0)=false:=by simp[hc]
  have f:=κ (rightF_c (u:=u) hc);clear hc
  go_wp2_with fail
  go_ret;exact madeB_mk f.o j
theorem pathOf_any(A A':Option Addr)(c c':Nat)(l:List (Int×Int))(u:List Int)(n:Int)(w:World)(hl:Hid (Nds w w.heap.size A l))(hu:Hid (Ris w w.heap.size A' u))(hw:Hid (WfN l))(hwu:Hid (WfI u))(hmax:(l.length:Int)≤1000000)(hmay:(u.length:Int)≤1000000)(hn:inI n)(hr:rightF l u=true):
  Calls Tryz.prog 134 #[.agg #[.slice A l.length c,.slice A' u.length c'],.int .i64 n] w (MadeIF (pathF l 3 n) w):=by
 have h:=β w (.cells (vS A l.length c A' u.length c') 142);have i:=θ hl.o h;have u0:=η hu.o h;have k:=κ (Blk.fresh w 142 (vS A l.length c A' u.length c'))
 go_enter Tryz.func134,Tryz.ntmps134
 go_wp2_with fail
 refine(right_any A A' c c' l u _ i u0 hw hwu hmax hmay).mono ?_;rintro e v ⟨rfl,b⟩;have m:=below_step h b;have o:=κ (Blk.below' k.o b);have p:=θ i.o b;have x:=χ (o.o.cell 0);clear h i u0 k b
 go_wp2_with fail
 refine(path_fresh A c l n _ p.o hw (by omega) hn).mono ?_;rintro e y ⟨q,z,rfl,d,f,g⟩;have j:Hid (∀a,q=some a→w.heap.size≤a.block):=fun a r=>by have:=f a r;have:=m.size;omega
 have s:=κ d;have t:=below_step m g;clear d g f
 go_wp2_with fail
 go_ret;exact madeIF_mk rfl s.o j.o t
end CrdC
namespace Fix3
open Abv Go.ChangeAt Tre Ref3 Law3
def capF(c:Int):Int:=(c%18446744073709551616)%4611686018427387905
def fixP(l out:List (Int×Int))(k:Nat):Int:=
 if 0<k∧0≤nP l k then (if 3≤(pathF out 3 (nP l k%k)).length then-1 else nP l k%k) else-1
def fixK(l:List (Int×Int)):Nat→List (Int×Int)
 |0=>[]
 |k+1=>fixK l k++[(fixP l (fixK l k) k,capF (nC l k))]
def fixF(l:List (Int×Int)):List (Int×Int):=if l.length=0 then [(-1,1000)] else fixK l (min l.length 10)
variable {l:List (Int×Int)} {i:Nat}
theorem fixK_len(l:List (Int×Int))(k:Nat):(fixK l k).length=k:=by
 induction k with
 |zero=>rfl
 |succ k ih=>rw[fixK,List.length_append,ih];rfl
theorem capF_b(c:Int):0≤capF c∧capF c≤4611686018427387904:=by unfold capF;omega
def Okt(l:List (Int×Int)):Prop:= ∀i,i<l.length→ -1≤nP l i∧nP l i<i∧0≤nC l i∧nC l i≤4611686018427387904∧top l 3 i=true
theorem nP_snoc_lt{x:Int×Int}(h:i<l.length):nP (l++[x]) i=nP l i:=by
 simp[nP,List.getElem?_append_left h]
theorem nC_snoc_lt{x:Int×Int}(h:i<l.length):nC (l++[x]) i=nC l i:=by
 simp[nC,List.getElem?_append_left h]
theorem nP_snoc_eq{x:Int×Int}:nP (l++[x]) l.length=x.1:=by simp[nP]
theorem nC_snoc_eq{x:Int×Int}:nC (l++[x]) l.length=x.2:=by simp[nC]
theorem top_snoc{x:Int×Int}(h:Okt l): ∀(d a:Nat),a<l.length→top (l++[x]) d a=top l d a
 |0,_,_=>rfl
 |d+1,a,ha=>by
  have hb:=h a ha
  by_cases e:nP l a= -1
  ·rw[top_m1 e,top_m1 (by rw[nP_snoc_lt ha];exact e)]
  ·have b:(nP l a== -1)=false:=by simp[e]
   rw[top_up b,top_up (by rw[nP_snoc_lt ha];exact b),nP_snoc_lt ha]
   exact top_snoc h d _ (by omega)
theorem top_short(h:Okt l){a:Nat}(ha:a<l.length)(hp:(pathF l 3 a).length<3):top l 2 a=true:=by
 have d:=h a ha;rw[pathF_in (inR_t (by omega) (by omega)),Int.toNat_natCast]at hp;by_cases e:nP l a= -1
 ·exact top_m1 e
 ·have b:(nP l a== -1)=false:=by simp[e]
  have c:=h (nP l a).toNat (by omega);rw[top_up b];rw[pathF_in (inR_t (by omega) (by omega))]at hp;by_cases e2:nP l (nP l a).toNat= -1
  ·exact top_m1 e2
  ·rw[pathF_in (inR_t (by omega) (by omega))]at hp;simp at hp;omega
theorem okt_snoc{p c:Int}(h:Okt l)(hc:0≤c∧c≤4611686018427387904)(hp:p= -1∨(0≤p∧p<l.length∧(pathF l 3 p).length<3)):Okt (l++[(p,c)]):=by
 intro i a;simp at a;by_cases e:i<l.length
 ·have:=h i e;rw[nP_snoc_lt e,nC_snoc_lt e,top_snoc h 3 i e];exact this
 ·obtain rfl:i=l.length:=by omega
  rw[nP_snoc_eq,nC_snoc_eq];refine⟨by simp;omega,by simp;omega,hc.1,hc.2,?_⟩;rcases hp with hp|⟨h0,h1,h2⟩
  ·exact top_m1 (by rw[nP_snoc_eq];exact hp)
  ·have b:(nP (l++[(p,c)]) l.length== -1)=false:=by rw[nP_snoc_eq];simp;omega
   rw[top_up b,nP_snoc_eq];simp only;rw[top_snoc h 2 _ (by omega)];exact top_short h (by omega) (by rwa[Int.toNat_of_nonneg h0])
theorem fixP_or(l out:List (Int×Int))(k:Nat):fixP l out k= -1∨(0≤fixP l out k∧fixP l out k<k∧(pathF out 3 (fixP l out k)).length<3):=by
 unfold fixP;split
 ·rename_i h
  have a:=Int.emod_nonneg (nP l k) (b:=(k:Int)) (by omega);have c:=Int.emod_lt_of_pos (nP l k) (b:=(k:Int)) (by omega);split
  ·exact .inl rfl
  ·exact .inr ⟨a,c,by omega⟩
 ·exact .inl rfl
theorem okt_fixK(l:List (Int×Int))(k:Nat):Okt (fixK l k):=by
 induction k with
 |zero=>intro i a;simp[fixK]at a
 |succ k ih=>
  rw[fixK];refine okt_snoc ih (capF_b _) ?_;rw[fixK_len];exact fixP_or l _ k
theorem okt_fixF(l:List (Int×Int)):Okt (fixF l):=by
 unfold fixF;split
 ·intro i a;obtain rfl:i=0:=by simpa using a
  exact⟨by decide,by decide,by decide,by decide,rfl⟩
 ·exact okt_fixK _ _
theorem fixF_len(l:List (Int×Int)):1≤(fixF l).length∧(fixF l).length≤10:=by
 unfold fixF;split
 ·simp
 ·rw[fixK_len];omega
theorem okt_wf(h:Okt l)(hl:l.length≤32):WfN l:=fun i a=>by
 have:=h i a
 exact⟨⟨by omega,by omega⟩,⟨by omega,by omega⟩⟩
theorem okt_scan(h:Okt l): ∀(g k:Nat),k+g=l.length→scanF l g k=climbF l l.length 0
 |0,k,_=>rfl
 |g+1,k,e=>by
  have hb:=h k (by omega)
  rw[scan_go (g:=g) (by by_cases e:nP l k= -1;exact .inl e;exact .inr (inR_t (by omega) (by omega))) hb.2.2.1 hb.2.2.2.1]
  exact okt_scan h g (k+1) (by omega)
theorem okt_climb(h:Okt l): ∀(g k:Nat),k+g=l.length→climbF l g k=(0,-1)
 |0,k,_=>rfl
 |g+1,k,e=>by
  rw[climbF_go (h k (by omega)).2.2.2.2]
  exact okt_climb h g (k+1) (by omega)
theorem okt_chk(h:Okt l)(h1:1≤l.length)(h2:l.length≤32):chk l=(0,-1):=by
 rw[chk,if_neg (by omega),if_neg (by omega),okt_scan h _ 0 (by omega),okt_climb h _ 0 (by omega)]
theorem wrap_u64(x:Int):IntKind.u64.wrap x=x%18446744073709551616:=by simp[IntKind.wrap,IntKind.bits,IntKind.signed]
theorem capE(c:Int):wrap64 ((IntKind.u64.wrap c).tmod 4611686018427387905)=capF c:=by
 rw[wrap_u64,Int.tmod_eq_emod_of_nonneg (Int.emod_nonneg _ (by decide))];have:=capF_b c;unfold wrap64;show _=capF c;change ((capF c)+_)%_-_=_;omega
theorem rpath_n(n:Nat)(A:Option Addr)(c:Nat)(l:List (Int×Int))(m:Int)(w:World)(hn:n=l.length)(hl:Hid (Nds w w.heap.size A l))(hw:Hid (WfN l))(hmax:(l.length:Int)≤9223372036854775807)(hm:inI m):
  Calls Tryz.prog 46 #[.slice A n c,.int .i64 m] w (MadeI (pathF l 3 m) w):=by subst hn;exact rpath_any A c l m w hl hw hmax hm
end Fix3
end Go.Proofs.YtcccdikhfgpamaaGreat
