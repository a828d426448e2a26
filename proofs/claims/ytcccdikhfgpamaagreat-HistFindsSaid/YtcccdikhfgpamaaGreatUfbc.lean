/- Texts side by side. -/
import Derived.Test.YtcccdikhfgpamaaGreatUfay
import Derived.Test.YtcccdikhfgpamaaGreatUfbb
set_option linter.unusedVariables false
set_option linter.unusedSimpArgs false
set_option maxRecDepth 100000
set_option maxHeartbeats 16000000
namespace Go.Proofs.YtcccdikhfgpamaaGreat
open Kap Go.ChangeShapes Go.WideShapes Go.ChangeAt Go.RowKit Mem Tre Ref3 Law3 Fix3 Cfg Crd CrdB CrdC Bkp Bks Bkf Bcl Dlk Stk Apt Bko Bku Bka Bkc Bkq Wpl Mdp Mdz Mds Mdd
namespace Mdq
open Cpl Res Bkg Bkj Bkw Mdn Mdo Mdk Mdr Mdj Mdl Mdy
open Mdg hiding Mm_new
structure Vp(m:Nat)(p:Pm):Prop where
 n:p.nd.length≤100
 a:p.ac.length≤100
 a1:1≤p.ac.length
 s:p.sy.length≤100
 ws:WfS p.sy
 wa:WfI p.ac
 sh:1≤p.sh∧p.sh≤1000
 nb:(p.bs.length:Int)=p.sh
 wi:0≤p.wi∧p.wi≤1000
 bk: ∀b∈p.bs,(Fw m b∧b.rows.length=p.ac.length)∧ ∀e∈b.op,EnK p.ac.length e
 cr:GoodSt p.cl p.cu
 ep:0≤p.ep∧p.ep≤m
variable {b:Bk} {sy:List (Int×Int×Int×Nat)} {ac:List Int} {q:Mq} {al i m:Nat} {p:Pm}
theorem gX_mem(h:i<q.xs.length):(gX q.xs i).b∈(plO q).bs:=by
 show _∈q.xs.map Bx.b;have e:gX q.xs i=q.xs[i]:=by simp[gX,h]
 rw[e];exact List.mem_map_of_mem (List.getElem_mem h)
theorem Vq_of{base g:Nat}{w:World}(h:Mm base w g q)(hv:Vp m (plO q)):Vq m q∧Vo q:=by
 have f:(plO q).ac.length=q.al:=h.l2.symm;refine⟨⟨by rw[h.l1];exact hv.n,by rw[h.l2];exact hv.a,by rw[h.l2];exact hv.a1,by rw[h.l3];exact hv.s,hv.ws,hv.wa,hv.sh,?_,hv.wi,fun i d=>?_,hv.cr⟩,fun i d e j=>?_⟩
 ·have c:=hv.nb;rw[show(plO q).bs.length=q.nb from by show(q.xs.map Bx.b).length=_;rw[List.length_map];exact h.l4.symm]at c;exact c
 ·have c:=(hv.bk _ (gX_mem d)).1;rw[f]at c;exact c
 ·have c:=(hv.bk _ (gX_mem d)).2 e j;rw[f]at c;exact c
theorem gB_mem{l:List Bk}(h:i<l.length):gB l i∈l:=by
 unfold gB;rw[List.getD,List.getElem?_eq_getElem h];exact List.getElem_mem h
theorem Vp.mono{m':Nat}(h:Vp m p)(hm:m≤m'):Vp m' p:=
 ⟨h.n,h.a,h.a1,h.s,h.ws,h.wa,h.sh,h.nb,h.wi,fun b c=>⟨⟨(h.bk b c).1.1.mono hm,(h.bk b c).1.2⟩,(h.bk b c).2⟩,h.cr,by have:=h.ep;omega⟩
theorem Vp_set(h:Vp m p)(i:Nat)(b:Bk)(hb:(Fw m b∧b.rows.length=p.ac.length)∧ ∀e∈b.op,EnK p.ac.length e):Vp m {p with bs:=p.bs.set i b}:=
 ⟨h.n,h.a,h.a1,h.s,h.ws,h.wa,h.sh,by show((p.bs.set i b).length:Int)=_;rw[List.length_set];exact h.nb,h.wi,fun c d=>by
  rcases List.mem_or_eq_of_mem_set d with h1|h1
  ·exact h.bk c h1
  ·rw[h1];exact hb,h.cr,h.ep⟩
theorem Vp_cu(h:Vp m p)(u:List Int)(hu:GoodSt p.cl u):Vp m {p with cu:=u}:=
 ⟨h.n,h.a,h.a1,h.s,h.ws,h.wa,h.sh,h.nb,h.wi,h.bk,hu,h.ep⟩
theorem Vp_cl(h:Vp m p)(l:List (Int×Int))(hl:GoodSt l p.cu):Vp m {p with cl:=l}:=
 ⟨h.n,h.a,h.a1,h.s,h.ws,h.wa,h.sh,h.nb,h.wi,h.bk,hl,h.ep⟩
theorem g_res{l:List (Int×Int)}{u:List Int}(h:GoodSt l u)(n x:Int):GoodSt l (resU l u n x):=
 have:=uok_res h.okt h.len h.uok n x
 ⟨h.okt,h.one,h.few,this.2.trans h.len,this.1⟩
theorem EnK_le{e:En}(h:EnK al e){x:Int}(h1:1≤x)(h2:x≤e.lf):EnK al (setL e x):=by
 obtain⟨a,c,d,j,f⟩:=h;have g:e.o.p*x≤e.o.p*e.lf:=Int.mul_le_mul_of_nonneg_left h2 (by omega);exact⟨a,c,d,h1,Int.le_trans g f⟩
theorem rows_fill(b:Bk)(k y:Int):(fillF b k y).1.rows=b.rows:=by
 unfold fillF;split
 ·rfl
 ·split
  ·split
   ·rfl
   ·split<;>rfl
  ·rfl
theorem rows_ack(b:Bk)(k:Int):(ackF b k).1.rows=b.rows:=by
 unfold ackF;split
 ·split<;>rfl
 ·rfl
theorem rows_cancel(b:Bk)(k:Int):(cancelF b k).1.rows=b.rows:=by
 unfold cancelF;split
 ·split<;>rfl
 ·rfl
theorem en_fill(h: ∀e∈b.op,EnK al e)(k y:Int): ∀e∈(fillF b k y).1.op,EnK al e:=by
 unfold fillF;split
 ·exact h
 ·rename_i hy
  split
  ·rename_i hp
   split
   ·exact h
   ·rename_i hl
    split
    ·exact fun e a=>h e (delE_mem a)
    ·rename_i h0
     intro e a;rcases List.mem_or_eq_of_mem_set a with h1|h1
     ·exact h e h1
     ·rw[h1];have c:=h _ (gE_mem hp);exact EnK_le c (by omega) (by omega)
  ·exact h
theorem en_ack(h: ∀e∈b.op,EnK al e)(k:Int): ∀e∈(ackF b k).1.op,EnK al e:=by
 unfold ackF;split
 ·split
  ·exact h
  ·exact fun e a=>h e (delE_mem a)
 ·exact h
theorem en_cancel(h: ∀e∈b.op,EnK al e)(k:Int): ∀e∈(cancelF b k).1.op,EnK al e:=by
 unfold cancelF;split
 ·rename_i hp
  split
  ·exact h
  ·intro e a;rcases List.mem_or_eq_of_mem_set a with h1|h1
   ·exact h e h1
   ·rw[h1];exact(h _ (gE_mem hp):EnK al (gE b.op (posE b.op k)))
 ·exact h
theorem sweep_e(ep:Int)(e:En):(swE ep e).o=e.o∧(swE ep e).lf=e.lf:=by
 unfold swE;split<;>exact⟨rfl,rfl⟩
theorem en_sweep(h: ∀e∈b.op,EnK al e)(ep:Int): ∀e∈(sweepF b ep).op,EnK al e:=by
 intro e d;obtain⟨a,he0,rfl⟩:=List.mem_map.1 (show e∈b.op.map (swE ep) from d);obtain⟨f,g⟩:=sweep_e ep a;have c:=h a he0;unfold EnK at c ⊢;rw[f,g];exact c
theorem Fw_swp(h:Fw m b)(ep:Int):Fw m (sweepF b ep):=by
 refine Fw_op h _ (by rw[List.length_map];exact h.ol) (fun e d=>?_);obtain⟨a,he0,rfl⟩:=List.mem_map.1 d;obtain⟨f,g⟩:=sweep_e ep a;have c:=h.en a he0;unfold EOk at c ⊢;rw[f,g];exact c
theorem shN_lt(h:Vp m p){i:Int}(hi:0≤i):shN p i<p.bs.length:=by
 have d:=h.nb;have e:=h.sh;obtain⟨k,c,a⟩:=tmod_at i p.bs.length hi (by omega);rw[shN_of rfl c];exact a
theorem lok_ok2{a s p q n t:Int}(h: ¬(lokF ac sy a s p q n t).1≠0):1≤p∧1≤q∧0≤a∧a<(ac.length:Int)∧p*q≤9223372036854775807∧0≤p*q∧(lokF ac sy a s p q n t).2=p*q:=by
 have c:(lokF ac sy a s p q n t).1=0:=by omega
 unfold lokF at c ⊢;split at c
 ·simp at c
 ·rename_i c1
  rw[if_neg c1];split at c
  ·simp at c
  ·rename_i c2
   rw[if_neg c2];split at c
   ·simp at c
   ·rename_i c3
    rw[if_neg c3];split at c
    ·simp at c
    ·rename_i c4
     rw[if_neg c4];split at c
     ·simp at c
     ·rename_i c5
      rw[if_neg c5];split at c
      ·simp at c
      ·rename_i c6
       rw[if_neg c6];split at c
       ·simp at c
       ·rename_i c7
        rw[if_neg c7];have d:Fix.inB (p*q)=true:=by simpa using c5
        simp only[Fix.inB,Bool.and_eq_true,decide_eq_true_eq]at d;have e:inR ac.length a=true:=by simpa using c2
        obtain⟨f,g⟩:=inR_of e;exact⟨by omega,by omega,f,g,d.2,Int.mul_nonneg (by omega) (by omega),rfl⟩
theorem Vp_off(h:Vp m p)(b:Bool):Vp m {p with off:=b}:=⟨h.n,h.a,h.a1,h.s,h.ws,h.wa,h.sh,h.nb,h.wi,h.bk,h.cr,h.ep⟩
theorem Vp_ep(h:Vp m p)(b:Bool)(x:Int)(h0:0≤x∧x≤m):Vp m {p with off:=b,ep:=x}:=⟨h.n,h.a,h.a1,h.s,h.ws,h.wa,h.sh,h.nb,h.wi,h.bk,h.cr,h0⟩
theorem Vp_ord(h:Vp m p)(o:Od)(ht:inI o.t)(hp:inI o.p)(hq:inI o.q):Vp (m+1) (ordF p o).1:=by
 have c:=h.mono (Nat.le_succ m);unfold ordF;split
 ·exact c
 ·split
  ·exact c
  ·rename_i h1
   split
   ·exact c
   ·split
    ·exact c
    ·obtain⟨j,k,l,r,v,z,A⟩:=lok_ok2 (ac:=p.ac) (sy:=p.sy) (a:=o.a) (s:=o.s) (p:=o.p) (q:=o.q) (n:=o.n) (t:=o.t) h1
     have w: ∀s,s<p.bs.length→(Fw (m+1) (Bks.addF p.sh p.wi (gB p.bs s) o p.ep)∧(Bks.addF p.sh p.wi (gB p.bs s) o p.ep).rows.length=p.ac.length)∧ ∀e∈(Bks.addF p.sh p.wi (gB p.bs s) o p.ep).op,EnK p.ac.length e:=by
      intro s d;have f:=h.bk _ (gB_mem d);refine⟨⟨Fw_add f.1.1 p.sh p.wi o p.ep ht hp hq,?_⟩,fun e x=>?_⟩
      ·show(List.set _ _ _).length=_;rw[List.length_set];exact f.1.2
      ·have g:e∈(gB p.bs s).op++[_]:=x;rcases List.mem_append.1 g with h3|h3
       ·exact f.2 e h3
       ·simp only[List.mem_cons,List.not_mem_nil,or_false]at h3;rw[h3];exact⟨l,r,j,k,v⟩
     by_cases d:shaP p o<p.bs.length
     ·have y:=Vp_set c (shaP p o) _ (w _ d);exact Vp_cu y _ (g_res h.cr _ _)
     ·have e:p.bs.set (shaP p o) (Bks.addF p.sh p.wi (gB p.bs (shaP p o)) o p.ep)=p.bs:=List.set_eq_of_length_le (Nat.le_of_not_lt d);rw[e];exact Vp_cu c _ (g_res h.cr _ _)
theorem Vp_do(h:Vp m p)(o:Opn)(ht:inI o.m.t)(hp:inI o.m.p)(hq:inI o.m.q):Vp (m+1) (doF p o).1:=by
 have c:=h.mono (Nat.le_succ m);have d: ∀s,s<p.bs.length→(Fw m (gB p.bs s)∧(gB p.bs s).rows.length=p.ac.length)∧ ∀e∈(gB p.bs s).op,EnK p.ac.length e:=fun s g=>h.bk _ (gB_mem g)
 unfold doF;split
 ·unfold swpF;split
  ·rename_i h1
   have n:0≤o.sx∧o.sx<(p.bs.length:Int):=by simpa[hasF] using h1
   have a:=d o.sx.toNat (by omega);exact(Vp_set h _ _ ⟨⟨Fw_swp a.1.1 _,a.1.2⟩,en_sweep a.2 _⟩).mono (Nat.le_succ m)
  ·exact c
 ·split
  ·exact c
  ·rename_i hr
   have j:rightM o.m=true:=by simpa using hr
   obtain⟨_,_,_,f⟩:=rightM_of j;have k:0≤o.m.i:=f.2.2.2.1.1;have g:=shN_lt h k;have a:=d _ g;split
   ·exact Vp_ord h _ ht hp hq
   ·split
    ·unfold canF;split
     ·exact c
     ·exact(Vp_set h _ _ ⟨⟨Fw_cancel a.1.1 _,by rw[rows_cancel];exact a.1.2⟩,en_cancel a.2 _⟩).mono (Nat.le_succ m)
    ·split
     ·unfold filF;split
      ·exact c
      ·have l:=Vp_set h (shN p o.m.i) (fillF (gB p.bs (shN p o.m.i)) o.m.i o.m.y).1 ⟨⟨Fw_fill a.1.1 _ _,by rw[rows_fill];exact a.1.2⟩,en_fill a.2 _ _⟩;exact(Vp_cu l _ ⟨h.cr.okt,h.cr.one,h.cr.few,(uok_rel h.cr.uok _ _).2.trans h.cr.len,(uok_rel h.cr.uok _ _).1⟩).mono (Nat.le_succ m)
     ·split
      ·unfold akF;split
       ·exact c
       ·have l:=Vp_set h (shN p o.m.i) (ackF (gB p.bs (shN p o.m.i)) o.m.i).1 ⟨⟨Fw_ack a.1.1 _,by rw[rows_ack];exact a.1.2⟩,en_ack a.2 _⟩;exact(Vp_cu l _ ⟨h.cr.okt,h.cr.one,h.cr.few,(uok_rel h.cr.uok _ _).2.trans h.cr.len,(uok_rel h.cr.uok _ _).1⟩).mono (Nat.le_succ m)
      ·split
       ·exact Vp_off c true
       ·split
        ·show Vp (m+1) (rearmF p).1;unfold rearmF;split
         ·exact Vp_ep c false _ (by have:=h.ep;omega)
         ·exact c
        ·unfold lmtF;split
         ·exact c
         ·exact Vp_cl c _ ⟨(okt_lim h.cr.okt _ _).1,by rw[(okt_lim h.cr.okt _ _).2];exact h.cr.one,by rw[(okt_lim h.cr.okt _ _).2];exact h.cr.few,by rw[(okt_lim h.cr.okt _ _).2];exact h.cr.len,h.cr.uok⟩
theorem Vp_begin{sh wi ra ta:Int}{nd:List (Int×Int)}(hc:cfgF sh wi ra ta nd ac sy=0)(ho:Okt nd)(h1:1≤nd.length)(h2:nd.length≤32)(hw:WfS sy)(ha:WfI ac):Vp 0 (bgnP sh wi ra ta nd ac sy):=by
 obtain⟨a,f,c,l,g,o,r,j⟩:=cfg_ok hc;obtain⟨s,A,t,C,E,F,G,H⟩:=siz_ok a;refine⟨by show nd.length≤100;omega,by show ac.length≤100;omega,c,by show sy.length≤100;omega,hw,ha,⟨s,by show sh≤1000;omega⟩,?_,⟨t,by show wi≤1000;omega⟩,?_,?_,⟨Int.le_refl _,Int.le_refl _⟩⟩
 ·show(((List.range sh.toNat).map _).length:Int)=sh;rw[List.length_map,List.length_range];omega
 ·intro b v;obtain⟨k,w,rfl⟩:=List.mem_map.1 (show b∈(List.range sh.toNat).map (fun k:Nat=>beginF ac.length (k:Int)) from v);have x:=List.mem_range.1 w;refine⟨⟨Fw_begin (n:=ac.length) (sh:=(k:Int)) (by omega) (by omega) (by omega),by show(List.replicate ac.length ro0).length=_;rw[List.length_replicate];rfl⟩,fun e y=>by cases y⟩
 ·exact⟨ho,h1,h2,List.length_replicate,fun i z=>by
   have d:i<nd.length:=by
    have h:i<(zeros nd.length).length:=z
    rwa[show(zeros nd.length).length=nd.length from List.length_replicate]at h
   show 0≤gI (zeros nd.length) i∧_
   simp[gI,zeros,d,bgnP]⟩
end Mdq
namespace Mde
open Abv Mdq
open Mdo hiding gB
variable {q:Mq} {base g:Nat} {w w':World}
theorem blk_ne{a b:Nat}{ta tb:TypeId}{ca cb:Array Value}(h:Blk w a ta ca)(k:Blk w b tb cb)(ht:ta≠tb):a≠b:=by
 intro e;subst e;unfold Blk at h k;rw[h]at k;injection k with k
 injection k with _ k2 _
 exact ht k2
theorem blk_do{z:Nat}{te:TypeId}{cs:Array Value}(h:Blk w z te cs)(M:Mm base w g q)(h1:te≠144)(h2:te≠181)(k:Kp w w' g q.Ab):Blk w' z te cs:=
 (k.block z h.lt (blk_ne h M.blk h1) (fun b a e=>blk_own_ne h M.row h2 (by rw[a,e];rfl))).trans h
theorem rd_kp{Ab X:Option Addr}{xs:List Value}(h:Rd w w.heap.size X xs)(k:Kp w w' g Ab)(hf:Far g Ab X xs):Rd w' w'.heap.size X xs:=by
 rcases hf with hf|hf
 ·exact .inl hf
 ·rcases h with h|⟨b,o,hA,hb,hc⟩
  ·exact .inl h
  ·refine .inr ⟨b,o,hA,Nat.lt_of_lt_of_le hb k.size,fun i v d=>?_⟩;rw[World.cell?_of_block (a:=⟨b,o+i,none⟩) (k.block b hb (hf _ hA).1 (fun e c=>(hf _ hA).2 e c))];exact hc i v d
theorem below_kp{w0:World}(hb:Below w0.heap.size w0 w)(M:Mm base w g q)(k:Kp w w' g q.Ab)(hbase:w0.heap.size≤base):Below w0.heap.size w0 w':=by
 refine⟨k.os.trans hb.os,k.tape.trans hb.tape,k.output.trans hb.output,Nat.le_trans hb.size k.size,fun i c=>?_⟩;have d:=M.gb;refine(k.block i (Nat.lt_of_lt_of_le c hb.size) (by omega) (fun b a=>?_)).trans (hb.block i c);have e:=(World.ownsRow.lt M.row b.block (by rw[a];rfl)).1;omega
end Mde
end Go.Proofs.YtcccdikhfgpamaaGreat
