/- Texts side by side. -/
import Derived.Test.YtcccdikhfgpamaaGreatUfab
import Derived.Test.YtcccdikhfgpamaaGreatUfah
import Derived.Test.YtcccdikhfgpamaaGreatUfat
set_option linter.unusedVariables false
set_option linter.unusedSimpArgs false
set_option maxRecDepth 100000
set_option maxHeartbeats 16000000
namespace Go.Proofs.YtcccdikhfgpamaaGreat
open Kap Abv Lax Go.ChangeShapes Go.WideShapes Go.ChangeAt Go.RowKit Mem Tre Ref3 Law3 Crd CrdB CrdC Rr4 Bkp Bks Bkf Bkh Bcl Dlk Stk Apt Bko Bku Lat
namespace Bka
def Fb(base:Nat)(A C:Option Addr)(rl:List Rc):Prop:=(∀a,A=some a→base≤a.block)∧(∀a,C=some a→base≤a.block)∧ ∀i,i<rl.length→ ∀a,(gC rl i).A=some a→base≤a.block
def MadeB2(b:Bk)(x:Int)(w:World)(e:Ending)(w':World):Prop:=
 ∃A C c d rl,e= .returned (.tuple #[bkA A C c d b,.int .i64 x])∧Bm w' A C rl b∧Fb w.heap.size A C rl∧Below w.heap.size w w'
variable {b:Bk} {op:List En} {rl:List Rc} {rows:List Ro} {base c c6 cr d gr no1 nr:Nat} {A A6 C:Option Addr} {w w0 w8:World}
theorem Bo_mono{base':Nat}(h:Bo base w A C c d rl b)(hb:base'≤base):Bo base' w A C c d rl b:=
 ⟨own_mono h.r hb,own_mono h.o hb,h.e,fun k a=>own_mono (h.own k a) hb,h.ap⟩
theorem Bo_st(h:Bo base w A C c d rl b){g:Nat}{te:TypeId}{cs:Array Value}(hk:Blk w g te cs)(h1:243≠te)(h2:203≠te)(h3:2≠te)(i:Nat)(x:Value):Bo base (w.setCell ⟨g,i,none⟩ x) A C c d rl b:=
 ⟨own_st h.r hk h1 i x,own_st h.o hk h2 i x,h.e,fun k a=>own_st (h.own k a) hk h3 i x,h.ap⟩
theorem Bo_st4(h:Bo base w A C c d rl b){g:Nat}{te:TypeId}{u0 u1 u2 u3:Value}(hk:Blk w g te #[u0,u1,u2,u3])(h1:243≠te)(h2:203≠te)(h3:2≠te)(v0 v1 v2 v3:Value):Bo base (Stk.st4 w g v0 v1 v2 v3) A C c d rl b:=
 ⟨own_st4 h.r hk h1,own_st4 h.o hk h2,h.e,fun k a=>own_st4 (h.own k a) hk h3,h.ap⟩
theorem Bo_fb(h:Bo base w A C c d rl b):Fb base A C rl:=
 ⟨own_fresh h.r,own_fresh h.o,fun i a=>own_fresh (h.own i a)⟩
theorem Bo_len(h:Bo base w A C c d rl b):rl.length=b.rows.length:=by rw[←h.e];simp
structure A7(w0 w:World)(rl:List Rc)(gr nr cr no1:Nat)(A6:Option Addr)(c6:Nat)(rows:List Ro)(op:List En):Prop where
 r:w.ownsRow w0.heap.size 243 3 (.slice (some ⟨gr,0,none⟩) nr cr) nr (rcs rl)
 o:w.ownsRow w0.heap.size 203 11 (.slice A6 no1 c6) no1 (ens op)
 e:rl.map Rc.r=rows
 own: ∀k,k<rl.length→OwR w0.heap.size w (gC rl k)
 ap:Apa rl rl.length
 b:Below w0.heap.size w0 w
structure A9(w0 w:World)(rl:List Rc)(gr nr cr no1:Nat)(A6:Option Addr)(c6:Nat)(rows:List Ro)(op:List En)(gR:Nat):Prop where
 r:w.ownsRow w0.heap.size 243 3 (.slice (some ⟨gr,0,none⟩) nr cr) nr (rcs rl)
 o:w.ownsRow w0.heap.size 203 11 (.slice A6 no1 c6) no1 (ens op)
 e:rl.map Rc.r=rows
 n: ∀k,k<rl.length→Ris w w.heap.size (gC rl k).A (gC rl k).r.ns
 f: ∀k,k<rl.length→ ∀a,(gC rl k).A=some a→w0.heap.size≤a.block
 ne: ∀k,k<rl.length→ ∀a,(gC rl k).A=some a→a.block≠gR
 b:Below w0.heap.size w0 w
theorem own_ne_A{n:Nat}{xs:List Value}(h:w.ownsRow base 2 1 (.slice A n c) n xs){b2 s2 n2:Nat}{e2:TypeId}{v2:Value}{x2:List Value}(k:w.ownsRow b2 e2 s2 v2 n2 x2)(hne:e2≠2)(hg:w.grownBy w8 (Value.slice A 0 0).ownBlock):w8.ownsRow b2 e2 s2 v2 n2 x2:=by
 rw[←ownBlock_len A n c]at hg;exact own_grown k h hne hg
theorem A7.used(h:A7 w0 w rl gr nr cr no1 A6 c6 rows op){i:Nat}(hi:i<rl.length){gR:Nat}{cs:Array Value}(hR:Blk w gR 181 cs)
  (hg:w.grownBy w8 (Value.slice (gC rl i).A 0 0).ownBlock){A8:Option Addr}{uns:List Int}(hr:Ris w8 w8.heap.size A8 uns)(hf: ∀a,A8=some a→w0.heap.size≤a.block)(hp: ∀a,A8=some a→(Value.slice (gC rl i).A 0 0).ownBlock=some a.block∨w.heap.size≤a.block)(c8:Nat)(us uc:Int):
  A9 w0 (((w8.setCell ⟨gr,i*3,none⟩ (.slice A8 uns.length c8)).setCell ⟨gr,i*3+1,none⟩ (.int .i64 us)).setCell ⟨gr,i*3+2,none⟩ (.int .i64 uc)) (rl.set i ⟨A8,c8,⟨uns,us,uc⟩⟩) gr nr cr no1 A6 c6 (rows.set i ⟨uns,us,uc⟩) op gR:=by
 have J:=World.ownsRow.lt h.r gr rfl;have x:=own_ne_A (h.own i hi) h.r (by decide) hg;have E:=own_ne_A (h.own i hi) h.o (by decide) hg;obtain⟨K,L⟩:=World.ownsRow.stored x (i*3) (.slice A8 uns.length c8);obtain⟨y,O⟩:=World.ownsRow.stored K (i*3+1) (.int .i64 us);obtain⟨P,Q⟩:=World.ownsRow.stored y (i*3+2) (.int .i64 uc)
 have j: ∀a,A8=some a→a.block≠gr:=by
  intro a f e;rcases hp a f with s|s
  ·have:=own_ne h.r (h.own i hi) (by decide);rcases this with h2|h2
   ·simp[Value.ownBlock]at h2
   ·refine h2 ?_;rw[ownBlock_len (gC rl i).A,s,e];rfl
  ·omega
 have n: ∀{b2 y n2:Nat} {e2:TypeId} {v2:Value} {x2:List Value},w8.ownsRow b2 e2 y v2 n2 x2→e2≠243→((((w8.setCell (α gr (i*3)) (.slice A8 uns.length c8)).setCell (α gr (i*3+1)) (ι us)).setCell (α gr (i*3+2)) (ι uc))).ownsRow b2 e2 y v2 n2 x2:=fun k t=>
  own_grown (own_grown (own_grown k x t L) K t O) y t Q
 have l: ∀k,k<(rl.set i ⟨A8,c8,⟨uns,us,uc⟩⟩).length→k<rl.length:=fun k n=>by simpa using n
 have F: ∀k,k<rl.length→ ∀a,(gC rl k).A=some a→a.block≠gR:=by
  intro k n a f e;refine blk_own_ne hR (h.own k n) (by decide) ?_;rw[f];simp[Value.ownBlock,e]
 have G:=fun k n=>own_fresh (h.own k n)
 refine⟨?_,n E (by decide),?_,?_,?_,?_,?_⟩
 ·rw[rcs_set _ _ _ hi];exact P
 ·rw[List.map_set,h.e]
 ·intro k m;have g:=l k m;rw[gC_set _ _ _ _ hi];by_cases hki:k=i
  ·rw[if_pos hki];exact Rd.keep' (Rd.keep' (Rd.keep' hr (Nat.lt_succ_self _) j _) (Nat.lt_succ_self _) j _) (Nat.lt_succ_self _) j _
  ·rw[if_neg hki]
   have H:(Value.slice (gC rl k).A (gC rl k).r.ns.length (gC rl k).c).ownBlock=none∨(Value.slice (gC rl k).A (gC rl k).r.ns.length (gC rl k).c).ownBlock≠(Value.slice (gC rl i).A 0 0).ownBlock:=by
    rw[ownBlock_len];cases hA:(gC rl k).A with
    |none=>exact .inl rfl
    |some a=>
     cases hB:(gC rl i).A with
     |none=>exact .inr (by simp[Value.ownBlock])
     |some b=>
      refine .inr ?_;simp only[Value.ownBlock,ne_eq,Option.some.injEq];rcases Nat.lt_or_gt_of_ne hki with hlt|hlt
      ·exact h.ap k i hlt hi a b hA hB
      ·exact fun e=>h.ap i k hlt g b a hB hA e.symm
   exact Rd.of_own (n (World.ownsRow.kept (h.own k g) hg H) (by decide))
 ·intro k m a f;have g:=l k m;rw[gC_set _ _ _ _ hi]at f;by_cases hki:k=i
  ·rw[if_pos hki]at f;exact hf a f
  ·rw[if_neg hki]at f;exact G k g a f
 ·intro k m a f;have g:=l k m;rw[gC_set _ _ _ _ hi]at f;by_cases hki:k=i
  ·rw[if_pos hki]at f;rcases hp a f with s|s
   ·intro e;refine blk_own_ne hR (h.own i hi) (by decide) ?_;rw[ownBlock_len (gC rl i).A,s,e]
   ·have:=hR.lt;omega
  ·rw[if_neg hki]at f;exact F k g a f
 ·have v:=ξ (own_fresh h.r _ rfl)
  have I:=h.b.grown hg h.b.size (fun q z=>by
   have s:=own_fresh (h.own i hi)
   cases hB:(gC rl i).A with
   |none=>rw[hB]at z;simp[Value.ownBlock]at z
   |some b=>
    rw[hB]at z
    simp only[Value.ownBlock,Option.some.injEq]at z
    have:=s b hB
    omega)
  exact((I.setCell (p:=(α gr (i*3))) v _).setCell (p:=(α gr (i*3+1))) v _).setCell (p:=(α gr (i*3+2))) v _
theorem A9.fin{gR:Nat}(h:A9 w0 w rl gr nr cr no1 A6 c6 rows op gR){u0 u1 u2 u3:Value}(hk:Blk w gR 181 #[u0,u1,u2,u3])(hgR:w0.heap.size≤gR)(v0 v1 v2 v3:Value)(sh ca:Int):
  Bm (Stk.st4 w gR v0 v1 v2 v3) (some ⟨gr,0,none⟩) A6 rl ⟨sh,ca,rows,op⟩∧Fb w0.heap.size (some ⟨gr,0,none⟩) A6 rl∧Below w0.heap.size w0 (Stk.st4 w gR v0 v1 v2 v3):=by
 refine⟨⟨Rd.of_own (own_st4 h.r hk (by decide)),h.e,?_,Rd.of_own (own_st4 h.o hk (by decide))⟩,⟨own_fresh h.r,own_fresh h.o,h.f⟩,st4_below h.b hgR⟩;intro k a;unfold Stk.st4;exact Rd.keep' (Rd.keep' (Rd.keep' (Rd.keep' (h.n k a) (Nat.lt_succ_self _) (h.ne k a) _) (Nat.lt_succ_self _) (h.ne k a) _) (Nat.lt_succ_self _) (h.ne k a) _) (Nat.lt_succ_self _) (h.ne k a) _
theorem add_any(sk ra ta:Int)(wn:Nat)(A1 A2 A3:Option Addr)(n1 n2 n3 c1 c2 c3:Nat)(sh ca:Int)(A C:Option Addr)(nr no c d:Nat)(rl:List Rc)(bk:Bk)(i:Nat)(os op oq on ot:Int)(ox:Bool)(ep:Int)(w:World)(hsh:Hid (sh=bk.sh∧ca=bk.ca))(hnr:Hid (nr=bk.rows.length))(hno:Hid (no=bk.op.length))(hm:Hid (Bm w A C rl bk))(hf:Hid (FewB bk))(h1:1≤sk)(h2:sk≤1000)(hwn:wn≤1000)(hir:i<nr):
  Calls Tryz.prog 95 #[.agg #[.int .i64 sk,.int .i64 (wn:Int),.int .i64 ra,.int .i64 ta,.slice A1 n1 c1,.slice A2 n2 c2,.slice A3 n3 c3],.agg #[.int .i64 sh,.int .i64 ca,.slice A nr c,.slice C no d],.agg #[.int .i64 (i:Int),.int .i64 os,.bool ox,.int .i64 op,.int .i64 oq,.int .i64 on,.int .i64 ot],.int .i64 ep] w (MadeB2 (addF sk wn bk ⟨(i:Int),os,ox,op,oq,on,ot⟩ ep) (bk.sh+sk*bk.ca) w):=by
 obtain⟨i0,hi,aS,aT,aU⟩:=info_parts infoE;have a2:nr≤1000:=by rw[hnr.o];exact hf.o.rl
 have a3:no≤1000:=by rw[hno.o];exact hf.o.ol
 have aB:0≤sh∧sh≤1000:=by rw[hsh.o.1];exact hf.o.sh
 have aj:0≤ca∧ca≤1000000000:=by rw[hsh.o.2];exact hf.o.ca
 have q2:0≤sk*ca:=Int.mul_nonneg (by omega) aj.1;obtain⟨l,O⟩:=ν (sh+sk*ca);have N:=fun W=>next_any sk (wn:Int) ra ta A1 A2 A3 n1 n2 n3 c1 c2 c3 sh ca A C nr no c d W h1 h2 aB.1 aB.2 aj.1 aj.2
 rw[←O]at N;have t1:(l== -1)=false:=by rw[beq_eq_false_iff_ne];omega
 have e5:wrap64 (ca+1)=ca+1:=by unfold wrap64;omega
 have aC:=κ O;clear O q2 h1 h2;have aD:inQ nr (i:Int)=true:=inQ_t (by omega) (by omega);have H:=fun W=>hasR_any A nr c (i:Int) W
 rw[aD]at H;clear aD;have b0:Hid (Below w.heap.size w ((((w.alloc (.cells (vC sk (wn:Int) ra ta A1 n1 c1 A2 n2 c2 A3 n3 c3) 43)).alloc (.cells (vB sh ca A nr c C no d) 181)).alloc (.cells (vO (i:Int) os ox op oq on ot) 75)).alloc (.cells (vB 0 0 none 0 0 none 0 0) 181))):=(((ψ.alloc τ _).alloc (by simp) _).alloc (by simp<;>omega) _).alloc (by simp<;>omega) _;have K0:Hid (Blk ((((w.alloc (.cells (vC sk (wn:Int) ra ta A1 n1 c1 A2 n2 c2 A3 n3 c3) 43)).alloc (.cells (vB sh ca A nr c C no d) 181)).alloc (.cells (vO (i:Int) os ox op oq on ot) 75)).alloc (.cells (vB 0 0 none 0 0 none 0 0) 181)) w.heap.size 43 (vC sk (wn:Int) ra ta A1 n1 c1 A2 n2 c2 A3 n3 c3)):=(((Blk.fresh w _ _).alloc _).alloc _).alloc _;have K1:Hid (Blk ((((w.alloc (.cells (vC sk (wn:Int) ra ta A1 n1 c1 A2 n2 c2 A3 n3 c3) 43)).alloc (.cells (vB sh ca A nr c C no d) 181)).alloc (.cells (vO (i:Int) os ox op oq on ot) 75)).alloc (.cells (vB 0 0 none 0 0 none 0 0) 181)) (w.heap.size+1) 181 (vB sh ca A nr c C no d)):=Blk.alloc (Blk.alloc (blk_hd (by simp)) _) _;have K2:Hid (Blk ((((w.alloc (.cells (vC sk (wn:Int) ra ta A1 n1 c1 A2 n2 c2 A3 n3 c3) 43)).alloc (.cells (vB sh ca A nr c C no d) 181)).alloc (.cells (vO (i:Int) os ox op oq on ot) 75)).alloc (.cells (vB 0 0 none 0 0 none 0 0) 181)) (w.heap.size+2) 75 (vO (i:Int) os ox op oq on ot)):=Blk.alloc (blk_hd (by simp)) _;have K3:=κ (δ (((w.alloc (.cells (vC sk (wn:Int) ra ta A1 n1 c1 A2 n2 c2 A3 n3 c3) 43)).alloc (.cells (vB sh ca A nr c C no d) 181)).alloc (.cells (vO (i:Int) os ox op oq on ot) 75)) 181 (vB 0 0 none 0 0 none 0 0) (w.heap.size+3))
 go_enter Tryz.func95,Tryz.ntmps95
 go_upto_region 1 with fail
 generalize ((((w.alloc (.cells (vC sk (wn:Int) ra ta A1 n1 c1 A2 n2 c2 A3 n3 c3) 43)).alloc (.cells (vB sh ca A nr c C no d) 181)).alloc (.cells (vO (i:Int) os ox op oq on ot) 75)).alloc (.cells (vB 0 0 none 0 0 none 0 0) 181))=w0 at b0 K0 K1 K2 K3 ⊢;obtain⟨gK,ak⟩:=ν w.heap.size;obtain⟨gB,al⟩:=ν (w.heap.size+1);obtain⟨P,am⟩:=ν (w.heap.size+2);obtain⟨gR,an⟩:=ν (w.heap.size+3);have ao:Hid (gR≠gB):=by show _≠_;omega
 have aq:Hid (gK≠gB):=by show _≠_;omega
 have ar:Hid (P≠gB):=by show _≠_;omega
 have au:Hid (w.heap.size≤gB):=by show _≤_;omega
 have aV:Hid (w.heap.size≤gR):=by show _≤_;omega
 have J0:=κ (ζ ak K0.o);have J1:=κ (ζ al K1.o);have J2:=κ (ζ am K2.o);have J3:=κ (ζ an K3.o);simp only[←an];simp only[←am];simp only[←al];simp only[←ak];clear ak al am an K0 K1 K2 K3;obtain⟨e0,e1,e2,e3,e4,aW,e6⟩:=q7_of J0.o;obtain⟨Y,Z,k2,k3⟩:=q4_of J1.o
 go_upto_region 2 with(go_at_call 136;refine(N _).mono ?_;rintro e w1 ⟨rfl,y⟩)
 have aa:=κ (below_step b0.o y);have M0:=κ (Blk.below' J0.o y);have M1:=κ (Blk.below' J1.o y);have M2:=κ (Blk.below' J2.o y);have M3:=κ (Blk.below' J3.o y);clear e0 e1 e2 e3 e4 aW e6 Y Z k2 k3 y b0 J0 J1 J2 J3 N;have HM:=κ (hm.o.below aa.o);obtain⟨Y,Z,k2,k3,f0,f1,f2,f3⟩:=z4_of M1.o;obtain⟨o0,o1,o2,o3,o4,o5,o6⟩:=q7_of M2.o
 go_upto_region 4 with(go_at_call 131;refine(H _).mono ?_;rintro e a4 ⟨rfl,rfl⟩)
 go_wp2_with fail
 refine(own_any sh ca A C nr no c d rl bk _ hsh hnr hno HM hf).mono ?_;rintro e w2 ⟨G,I,cr,J,j,he,aE,z⟩;have aF:bkA G I cr J bk= .agg (vB sh ca G nr cr I no J):=by unfold bkA;rw[hnr.o,hno.o,hsh.o.1,hsh.o.2]
 rw[aF]at he;subst he;have aG:=κ (Bo_mono aE aa.o.size);have aH:=κ (below_step aa.o z);have L0:=κ (Blk.below' M0.o z);have L1:=κ (Blk.below' M1.o z);have L2:=κ (Blk.below' M2.o z);have L3:=κ (Blk.below' M3.o z);clear Y Z k2 k3 f0 f1 f2 f3 o0 o1 o2 o3 o4 o5 o6 z aF aE M0 M1 M2 M3 HM aa H;obtain⟨Y,Z,k2,k3,f0,f1,f2,f3⟩:=z4_of L1.o;have B3:Hid (Bo w.heap.size ((((w2.setCell (α gB 0) (ι sh)).setCell (α gB 1) (ι ca)).setCell (α gB 2) (.slice G nr cr)).setCell (α gB 3) (.slice I no J)) G I cr J j bk):=Bo_st4 aG.o L1.o (by decide) (by decide) (by decide) _ _ _ _;have P1:Hid (Blk ((((w2.setCell (α gB 0) (ι sh)).setCell (α gB 1) (ι ca)).setCell (α gB 2) (.slice G nr cr)).setCell (α gB 3) (.slice I no J)) gB 181 (vB sh ca G nr cr I no J)):=st4_blk L1.o;have P0:Hid (Blk ((((w2.setCell (α gB 0) (ι sh)).setCell (α gB 1) (ι ca)).setCell (α gB 2) (.slice G nr cr)).setCell (α gB 3) (.slice I no J)) gK 43 (vC sk (wn:Int) ra ta A1 n1 c1 A2 n2 c2 A3 n3 c3)):=st4_far L0.o aq.o;have P2:Hid (Blk ((((w2.setCell (α gB 0) (ι sh)).setCell (α gB 1) (ι ca)).setCell (α gB 2) (.slice G nr cr)).setCell (α gB 3) (.slice I no J)) P 75 (vO (i:Int) os ox op oq on ot)):=st4_far L2.o ar.o;have P3:Hid (Blk ((((w2.setCell (α gB 0) (ι sh)).setCell (α gB 1) (ι ca)).setCell (α gB 2) (.slice G nr cr)).setCell (α gB 3) (.slice I no J)) gR 181 (vB 0 0 none 0 0 none 0 0)):=st4_far L3.o ao.o;have av:Hid (Below w.heap.size w ((((w2.setCell (α gB 0) (ι sh)).setCell (α gB 1) (ι ca)).setCell (α gB 2) (.slice G nr cr)).setCell (α gB 3) (.slice I no J))):=st4_below aH.o au.o
 go_upto_region 5 with fail
 clear Y Z k2 k3 f0 f1 f2 f3 L0 L1 L2 L3 aG aH;generalize ((((w2.setCell (α gB 0) (ι sh)).setCell (α gB 1) (ι ca)).setCell (α gB 2) (.slice G nr cr)).setCell (α gB 3) (.slice I no J))=w3 at B3 P0 P1 P2 P3 av ⊢;obtain⟨Y,Z,k2,k3,f0,f1,f2,f3⟩:=z4_of P1.o;have B4:Hid (Bo w.heap.size (w3.setCell (α gB 1) (ι (ca+1))) G I cr J j bk):=Bo_st B3.o P1.o (by decide) (by decide) (by decide) 1 _;have Q1:=κ (ξ (blk_st P1.o 1 (ι (ca+1))));have Q0:Hid (Blk (w3.setCell (α gB 1) (ι (ca+1))) gK 43 (vC sk (wn:Int) ra ta A1 n1 c1 A2 n2 c2 A3 n3 c3)):=far_st P0.o aq.o _;have Q2:Hid (Blk (w3.setCell (α gB 1) (ι (ca+1))) P 75 (vO (i:Int) os ox op oq on ot)):=far_st P2.o ar.o _;have Q3:Hid (Blk (w3.setCell (α gB 1) (ι (ca+1))) gR 181 (vB 0 0 none 0 0 none 0 0)):=far_st P3.o ao.o _;have ab:Hid (Below w.heap.size w (w3.setCell (α gB 1) (ι (ca+1)))):=av.o.setCell (p:=(α gB 1)) au.o _
 go_upto_region 6 with fail
 clear Y Z k2 k3 f0 f1 f2 f3 P0 P1 P2 P3 B3 av;generalize (w3.setCell (α gB 1) (ι (ca+1)))=w4 at B4 Q0 Q1 Q2 Q3 ab ⊢;obtain⟨Y,Z,k2,k3,f0,f1,f2,f3⟩:=z4_of Q1.o;obtain⟨o0,o1,o2,o3,o4,o5,o6⟩:=q7_of Q2.o;obtain⟨no1,aI⟩:=ν (no+1);have aJ:=κ aI;clear aI;have E:=κ (β w4 (.cells (vE l (i:Int) os ox op oq on ot oq 1 ep) 203));have V1:=own_below (by have:=B4.o.o;rw[←hno.o]at this;exact this) E.o;have V2:Hid (Rd (w4.alloc (.cells (vE l (i:Int) os ox op oq on ot oq 1 ep) 203)) ((w4.alloc (.cells (vE l (i:Int) os ox op oq on ot oq 1 ep) 203))).heap.size (some (α w4.heap.size 0)) (enV ⟨l,⟨(i:Int),os,ox,op,oq,on,ot⟩,oq,1,ep⟩)):=rd_new rfl;have V3:=κ (Nat.le_trans ab.o.size E.o.size);have V4:=κ (Blk.below' Q1.o E.o)
 go_upto_region 7 with(at_builtin;go_loud (refine wpList_appRG (nm:=no1) V1 V2 aJ.o rfl _ _ _ rfl i0 (.agg #[.int .i64 0,.int .i64 0,.int .i64 0,.bool false,.int .i64 0,.int .i64 0,.int .i64 0,.int .i64 0,.int .i64 0,.int .i64 0,.int .i64 0]) 88 Tryz.underlying179 hi aS aT aU rfl (by decide) rfl rfl (by simp[enV]) (by simp[enV,Value.oneCell']) (by unfold maxLen;omega) (by omega) V3.o ?_);intro A6 c6 w6 Q g;have k9:=Blk_grown V4.o g (blk_own_ne V4.o V1.o (by decide));obtain⟨p0,p1,p2,p3,q0,q1,q2,q3⟩:=z4_of k9)
 have aX:0<nr:=by omega
 obtain⟨gr,aY⟩:=own_at B4.o.r (by rw[←hnr.o];exact aX);subst aY
 have F:Hid (A7 w (w6.setCell (α gB 3) (.slice A6 no1 c6)) j gr nr cr no1 A6 c6 bk.rows (bk.op++[⟨l,⟨(i:Int),os,ox,op,oq,on,ot⟩,oq,1,ep⟩])):=by
  refine⟨?_,?_,B4.o.e,?_,B4.o.ap,?_⟩
  ·have h:=B4.o.r;rw[←hnr.o]at h;exact own_st (own_grown (own_below h E.o) V1.o (by decide) g) k9 (by decide) 3 _
  ·rw[ens_snoc];exact own_st Q.o k9 (by decide) 3 _
  ·intro k hk;exact own_st (own_grown (own_below (B4.o.own k hk) E.o) V1.o (by decide) g) k9 (by decide) 3 _
  ·exact(grown_below (below_step ab.o E.o) V1.o g τ V3.o).setCell (p:=(α gB 3)) au.o _
 have KB:=κ (ξ (blk_st k9 3 (.slice A6 no1 c6)));have KC:Hid (Blk (w6.setCell (α gB 3) (.slice A6 no1 c6)) gK 43 (vC sk (wn:Int) ra ta A1 n1 c1 A2 n2 c2 A3 n3 c3)):=far_st (Blk_grown (Blk.below' Q0.o E.o) g (blk_own_ne (Blk.below' Q0.o E.o) V1.o (by decide))) aq.o _;have KO:Hid (Blk (w6.setCell (α gB 3) (.slice A6 no1 c6)) P 75 (vO (i:Int) os ox op oq on ot)):=far_st (Blk_grown (Blk.below' Q2.o E.o) g (blk_own_ne (Blk.below' Q2.o E.o) V1.o (by decide))) ar.o _;have KR:Hid (Blk (w6.setCell (α gB 3) (.slice A6 no1 c6)) gR 181 (vB 0 0 none 0 0 none 0 0)):=far_st (Blk_grown (Blk.below' Q3.o E.o) g (blk_own_ne (Blk.below' Q3.o E.o) V1.o (by decide))) ao.o _;have q:Hid (i<j.length):=by show _<_;rw[Bo_len B4.o,←hnr.o];exact hir
 clear Y Z k2 k3 f0 f1 f2 f3 o0 o1 o2 o3 o4 o5 o6 p0 p1 p2 p3 q0 q1 q2 q3 k9 g Q E V1 V2 V3 V4 Q0 Q1 Q2 Q3 B4 ab;generalize (w6.setCell (α gB 3) (.slice A6 no1 c6))=K at F KB KC KO KR ⊢;have aw:=κ (gC_row F.o.e q.o);have HL:=κ (hf.o.nl i (by rw[←hnr.o];exact hir));have HC:=κ (hf.o.cnt i (by rw[←hnr.o];exact hir));obtain⟨_,_,_,_,f,a⟩:=own_room F.o.r;have c0:=a (i*3) _ (by have:=rcs_get j i 0 q.o (by decide);exact this);have c1:=a (i*3+1) _ (by have:=rcs_get j i 1 q.o (by decide);exact this);have c2:=a (i*3+2) _ (by have:=rcs_get j i 2 q.o (by decide);exact this);have aK:=κ (F.o.own i q.o);obtain⟨R,hR⟩:=ν (gC j i);rw[←hR]at c0 c1 c2 aw aK;rw[←aw.o]at HL HC;have HR:=κ hR;clear hR f a;obtain⟨An,cn,ns,ac,ad⟩:=R;simp only[]at HL HC;obtain⟨nn,S⟩:=ν ns.length;have aL:=κ S;have aZ:nn≤1000:=by rw[S];exact HL.o
 have n:Hid (K.drew.ownsRow w.heap.size 2 1 (.slice An nn cn) nn (ints ns)):=by rw[S];exact aK.o
 have C0:K.drew.cell? (α gr (i*3))=some (.slice An nn cn):=by rw[S];exact c0
 have C1:K.drew.cell? (α gr (i*3+1))=some (ι ac):=c1;have C2:K.drew.cell? (α gr (i*3+2))=some (ι ad):=c2;clear c0 c1 c2 S;have a0:Hid (w.heap.size≤K.drew.heap.size):=F.o.b.size;have US:=used_any w.heap.size An nn cn ns ac ad (i:Int) os op oq on ot ox wn K.drew aL n a0 aZ HC hwn;obtain⟨U,hU⟩:=ν (usedF ⟨ns,ac,ad⟩ on ot wn);rw[←hU]at US;have HU:=κ hU;clear hU;obtain⟨s,us,uc⟩:=U;have ae:=κ (ε KB.o);have af:=κ (ε KC.o);have m:=κ (ε KO.o);let T:World→Prop:=fun L=>L.cell? (α gB 2)=some (.slice (some (α gr 0)) nr cr)∧L.cell? (α P 0)=some (ι (i:Int))∧L.cell? (α P 1)=some (ι os)∧L.cell? (α P 2)=some (.bool ox)∧L.cell? (α P 3)=some (ι op)∧L.cell? (α P 4)=some (ι oq)∧L.cell? (α P 5)=some (ι on)∧L.cell? (α P 6)=some (ι ot)∧L.cell? (α gK 1)=some (ι (wn:Int))∧L.cell? (α gr (i*3))=some (.slice An nn cn)∧L.cell? (α gr (i*3+1))=some (ι ac)∧L.cell? (α gr (i*3+2))=some (ι ad)
 have x:Hid (T (K.drew)):=⟨ae.o.cell 2,m.o.cell 0,m.o.cell 1,m.o.cell 2,m.o.cell 3,m.o.cell 4,m.o.cell 5,m.o.cell 6,af.o.cell 1,C0,C1,C2⟩;clear C0 C1 C2;refine Ω T [15] ?_;refine jA 0 x.o ?_;refine jB 1 x.o ?_;refine jA 2 x.o ?_;refine jB 3 x.o ?_;refine jA 4 x.o ?_;refine jB 5 x.o ?_;refine jA 6 x.o ?_;refine jB 7 x.o ?_;refine jA 8 x.o ?_;refine jB 9 x.o ?_;refine jB 10 x.o ?_;refine jA 11 x.o ?_;refine jB 12 x.o ?_;refine jN 13 fun K' hK=>?_
 go_simp;refine US.mono ?_;rintro e w8 ⟨A8,c8,he,aM,aN,aO,ag⟩;dsimp only at he;subst he;have V:=own_ne_A (w8:=w8) n.o F.o.r (by decide) ag;have X:K.drew.grownBy w8 (Value.slice An nn cn).ownBlock:=by rw[ownBlock_len];exact ag
 have ah:=κ (Blk_grown ae.o X (blk_own_ne ae.o n.o (by decide)));have aP:=κ (Blk_grown af.o X (blk_own_ne af.o n.o (by decide)));have t:=κ (Blk_grown m.o X (blk_own_ne m.o n.o (by decide)));have ax:=κ (Blk_grown (show Blk K.drew gR 181 (vB 0 0 none 0 0 none 0 0) from KR.o) X (blk_own_ne (show Blk K.drew gR 181 (vB 0 0 none 0 0 none 0 0) from KR.o) n.o (by decide)));have ay:Hid (gB≠gr):=fun e=>blk_own_ne ah.o V (by decide) (by rw[e];rfl)
 have az:Hid (gR≠gr):=fun e=>blk_own_ne ax.o V (by decide) (by rw[e];rfl)
 obtain⟨_,_,_,_,f,a⟩:=own_room V;have d0:=a (i*3) _ (by have:=rcs_get j i 0 q.o (by decide);rw[←HR.o]at this;exact this);have d1:=a (i*3+1) _ (by have:=rcs_get j i 1 q.o (by decide);rw[←HR.o]at this;exact this);have d2:=a (i*3+2) _ (by have:=rcs_get j i 2 q.o (by decide);rw[←HR.o]at this;exact this);have a5:=(own_room V).2.2.1;have g0:=(f (i*3) (by omega)).2;have g1:=(f (i*3+1) (by omega)).2;have g2:=(f (i*3+2) (by omega)).2;have aA:Hid (T w8):=⟨ah.o.cell 2,t.o.cell 0,t.o.cell 1,t.o.cell 2,t.o.cell 3,t.o.cell 4,t.o.cell 5,t.o.cell 6,aP.o.cell 1,(by rw[aL.o];exact d0),d1,d2⟩;have X9:=κ (A7.used (w8:=w8) (show A7 w K.drew j gr nr cr no1 A6 c6 bk.rows (bk.op++[⟨l,⟨(i:Int),os,ox,op,oq,on,ot⟩,oq,1,ep⟩]) from⟨F.o.r,F.o.o,F.o.e,F.o.own,F.o.ap,F.o.b.drew⟩) q.o (show Blk K.drew gR 181 (vB 0 0 none 0 0 none 0 0) from KR.o) (by rw[←HR.o];exact ag) aM aN (by rw[←HR.o];exact aO) c8 us uc);clear V X f a aM aN aO ag ae af m aP t
 go_wp2_with fail
 refine hK.out _ _ aA.o ?_;clear hK K';refine jP ?_;refine jA 14 aA.o ?_;have D0:=ω (α gr (i*3)) (.slice A8 s.length c8) d1;have D1:=ω (α gr (i*3+1)) (ι us) (ω (α gr (i*3)) (.slice A8 s.length c8) d2);have G0:=φ (α gr (i*3)) (.slice A8 s.length c8) g1;have G1:=φ (α gr (i*3+1)) (ι us) (φ (α gr (i*3)) (.slice A8 s.length c8) g2);refine jV 15 fun K' hK=>?_
 go_simp;refine hK.out _ _ ?_;clear hK K';refine jP ?_;refine Δ ?_;have aQ:Hid (Blk (((w8.setCell (α gr (i*3)) (.slice A8 s.length c8)).setCell (α gr (i*3+1)) (ι us)).setCell (α gr (i*3+2)) (ι uc)) gB 181 (vB sh (ca+1) (some (α gr 0)) nr cr A6 no1 c6)):=far_st (far_st (far_st ah.o ay.o _) ay.o _) ay.o _;have ai:Hid (Blk (((w8.setCell (α gr (i*3)) (.slice A8 s.length c8)).setCell (α gr (i*3+1)) (ι us)).setCell (α gr (i*3+2)) (ι uc)) gR 181 (vB 0 0 none 0 0 none 0 0)):=far_st (far_st (far_st ax.o az.o _) az.o _) az.o _;clear D0 D1 G0 G1 d0 d1 d2 g0 g1 g2 x aA ah ax F KB KC KO KR;generalize (((w8.setCell (α gr (i*3)) (.slice A8 s.length c8)).setCell (α gr (i*3+1)) (ι us)).setCell (α gr (i*3+2)) (ι uc))=w9 at X9 aQ ai ⊢;have F3:Blk (st4 w9 gR (ι sh) (ι (ca+1)) (.slice (some (α gr 0)) nr cr) (.slice A6 no1 c6)) gR 181 (vB sh (ca+1) (some (α gr 0)) nr cr A6 no1 c6):=st4_blk ai.o
 have aR:MadeB2 (addF sk wn bk ⟨(i:Int),os,ox,op,oq,on,ot⟩ ep) (bk.sh+sk*bk.ca) w (.returned (.tuple #[.agg (vB sh (ca+1) (some (α gr 0)) nr cr A6 no1 c6),ι l])) (st4 w9 gR (ι sh) (ι (ca+1)) (.slice (some (α gr 0)) nr cr) (.slice A6 no1 c6)):=by
  obtain⟨y1,y2,y3⟩:=A9.fin X9.o ai.o aV.o (.int .i64 sh) (.int .i64 (ca+1)) (.slice (some ⟨gr,0,none⟩) nr cr) (.slice A6 no1 c6) sh (ca+1)
  have a1:addF sk wn bk ⟨(i:Int),os,ox,op,oq,on,ot⟩ ep=⟨sh,ca+1,bk.rows.set i ⟨s,us,uc⟩,bk.op++[⟨l,⟨(i:Int),os,ox,op,oq,on,ot⟩,oq,1,ep⟩]⟩:=by
   unfold addF;have h1:=aw.o.symm;simp only[Int.toNat_natCast,h1];rw[←HU.o,aC.o,hsh.o.1,hsh.o.2]
  rw[a1];refine⟨some (α gr 0),A6,cr,c6,_,?_,y1,y2,y3⟩;rw[aC.o,hsh.o.1,hsh.o.2];unfold bkA;simp[aJ.o,hno.o,hnr.o]
 have HF:=κ aR;clear aR X9;obtain⟨Y,Z,k2,k3⟩:=q4_of aQ.o;obtain⟨z0,z1,z2,z3,f0,f1,f2,f3⟩:=z4_of ai.o
 go_wp2_with fail
 obtain⟨d0,d1,d2,d3⟩:=q4_of F3;clear F3;unfold st4 at d0 d1 d2 d3 HF;exact bodyPost_ret (v:= .tuple #[.agg #[ι sh,ι (ca+1),.slice (some (α gr 0)) nr cr,.slice A6 no1 c6],ι l]) (by simp[results,Tryz.results95,go_sem,d0,d1,d2,d3]) rfl HF.o
end Bka
end Go.Proofs.YtcccdikhfgpamaaGreat
