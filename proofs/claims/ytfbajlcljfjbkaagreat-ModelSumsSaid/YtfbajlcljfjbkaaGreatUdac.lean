/- Texts side by side. -/
import Derived.Test.YtfbajlcljfjbkaaGreatUdab
set_option linter.unusedVariables false
set_option linter.unusedSimpArgs false
set_option maxRecDepth 100000
set_option maxHeartbeats 16000000
namespace Go.Proofs.YtfbajlcljfjbkaaGreat
open Kap Go.ChangeShapes Go.WideShapes Go.ChangeAt Go.RowKit Mem Tre Ref3 Law3 Fix3 Cfg Crd CrdB CrdC Bkp Bks Bkf Bcl Dlk Stk Apt Bko Bku Bka Bkc Bkq Wpl Mdp Mdz Mds Mdd
namespace Mdq
open Cpl Res Bkg Bkj Bkw Mdn Mdo Mdk Mdr Mdj Mdl Mdy
open Mdg hiding Mm_new
structure Vp(m:Nat)(p:Pm):Prop where
 n:p.nd.length≤100
 a:p.ac.length≤100
 a1:1≤p.ac.length
 s:p.sy.length≤100
 ws:WfS p.sy
 wa:WfI p.ac
 sh:1≤p.sh∧p.sh≤1000
 nb:(p.bs.length:Int)=p.sh
 wi:0≤p.wi∧p.wi≤1000
 bk: ∀b∈p.bs,(Fw m b∧b.rows.length=p.ac.length)∧ ∀e∈b.op,EnK p.ac.length e
 cr:GoodSt p.cl p.cu
 ep:0≤p.ep∧p.ep≤m
variable {b:Bk} {sy:List (Int×Int×Int×Nat)} {ac:List Int} {q:Mq} {al i m:Nat} {p:Pm}
theorem gX_mem(h:i<q.xs.length):(gX q.xs i).b∈(plO q).bs:=by
 show _∈q.xs.map Bx.b;have e:gX q.xs i=q.xs[i]:=by simp[gX,h]
 rw[e];exact List.mem_map_of_mem (List.getElem_mem h)
theorem Vq_of{base g:Nat}{w:World}(h:Mm base w g q)(hv:Vp m (plO q)):Vq m q∧Vo q:=by
 have e2:(plO q).ac.length=q.al:=h.l2.symm;refine⟨⟨by rw[h.l1];exact hv.n,by rw[h.l2];exact hv.a,by rw[h.l2];exact hv.a1,by rw[h.l3];exact hv.s,hv.ws,hv.wa,hv.sh,?_,hv.wi,fun i hi=>?_,hv.cr⟩,fun i hi e he=>?_⟩
 ·have h1:=hv.nb;rw[show(plO q).bs.length=q.nb from by show(q.xs.map Bx.b).length=_;rw[List.length_map];exact h.l4.symm]at h1;exact h1
 ·have h1:=(hv.bk _ (gX_mem hi)).1;rw[e2]at h1;exact h1
 ·have h1:=(hv.bk _ (gX_mem hi)).2 e he;rw[e2]at h1;exact h1
theorem gB_mem{l:List Bk}(h:i<l.length):gB l i∈l:=by
 unfold gB;rw[List.getD,List.getElem?_eq_getElem h];exact List.getElem_mem h
theorem Vp.mono{m':Nat}(h:Vp m p)(hm:m≤m'):Vp m' p:=
 ⟨h.n,h.a,h.a1,h.s,h.ws,h.wa,h.sh,h.nb,h.wi,fun b hb=>⟨⟨(h.bk b hb).1.1.mono hm,(h.bk b hb).1.2⟩,(h.bk b hb).2⟩,h.cr,by have:=h.ep;omega⟩
theorem Vp_set(h:Vp m p)(i:Nat)(b:Bk)(hb:(Fw m b∧b.rows.length=p.ac.length)∧ ∀e∈b.op,EnK p.ac.length e):Vp m {p with bs:=p.bs.set i b}:=
 ⟨h.n,h.a,h.a1,h.s,h.ws,h.wa,h.sh,by show((p.bs.set i b).length:Int)=_;rw[List.length_set];exact h.nb,h.wi,fun c hc=>by
  rcases List.mem_or_eq_of_mem_set hc with h1|h1
  ·exact h.bk c h1
  ·rw[h1];exact hb,h.cr,h.ep⟩
theorem Vp_cu(h:Vp m p)(u:List Int)(hu:GoodSt p.cl u):Vp m {p with cu:=u}:=
 ⟨h.n,h.a,h.a1,h.s,h.ws,h.wa,h.sh,h.nb,h.wi,h.bk,hu,h.ep⟩
theorem Vp_cl(h:Vp m p)(l:List (Int×Int))(hl:GoodSt l p.cu):Vp m {p with cl:=l}:=
 ⟨h.n,h.a,h.a1,h.s,h.ws,h.wa,h.sh,h.nb,h.wi,h.bk,hl,h.ep⟩
theorem g_res{l:List (Int×Int)}{u:List Int}(h:GoodSt l u)(n x:Int):GoodSt l (resU l u n x):=
 have:=uok_res h.okt h.len h.uok n x
 ⟨h.okt,h.one,h.few,this.2.trans h.len,this.1⟩
theorem EnK_le{e:En}(h:EnK al e){x:Int}(h1:1≤x)(h2:x≤e.lf):EnK al (setL e x):=by
 obtain⟨a1,a2,a3,a4,a5⟩:=h;have b1:e.o.p*x≤e.o.p*e.lf:=Int.mul_le_mul_of_nonneg_left h2 (by omega);exact⟨a1,a2,a3,h1,Int.le_trans b1 a5⟩
theorem rows_fill(b:Bk)(k y:Int):(fillF b k y).1.rows=b.rows:=by
 unfold fillF;split
 ·rfl
 ·split
  ·split
   ·rfl
   ·split<;>rfl
  ·rfl
theorem rows_ack(b:Bk)(k:Int):(ackF b k).1.rows=b.rows:=by
 unfold ackF;split
 ·split<;>rfl
 ·rfl
theorem rows_cancel(b:Bk)(k:Int):(cancelF b k).1.rows=b.rows:=by
 unfold cancelF;split
 ·split<;>rfl
 ·rfl
theorem en_fill(h: ∀e∈b.op,EnK al e)(k y:Int): ∀e∈(fillF b k y).1.op,EnK al e:=by
 unfold fillF;split
 ·exact h
 ·rename_i hy
  split
  ·rename_i hp
   split
   ·exact h
   ·rename_i hl
    split
    ·exact fun e he=>h e (delE_mem he)
    ·rename_i h0
     intro e he;rcases List.mem_or_eq_of_mem_set he with h1|h1
     ·exact h e h1
     ·rw[h1];have h2:=h _ (gE_mem hp);exact EnK_le h2 (by omega) (by omega)
  ·exact h
theorem en_ack(h: ∀e∈b.op,EnK al e)(k:Int): ∀e∈(ackF b k).1.op,EnK al e:=by
 unfold ackF;split
 ·split
  ·exact h
  ·exact fun e he=>h e (delE_mem he)
 ·exact h
theorem en_cancel(h: ∀e∈b.op,EnK al e)(k:Int): ∀e∈(cancelF b k).1.op,EnK al e:=by
 unfold cancelF;split
 ·rename_i hp
  split
  ·exact h
  ·intro e he;rcases List.mem_or_eq_of_mem_set he with h1|h1
   ·exact h e h1
   ·rw[h1];exact(h _ (gE_mem hp):EnK al (gE b.op (posE b.op k)))
 ·exact h
theorem sweep_e(ep:Int)(e:En):(swE ep e).o=e.o∧(swE ep e).lf=e.lf:=by
 unfold swE;split<;>exact⟨rfl,rfl⟩
theorem en_sweep(h: ∀e∈b.op,EnK al e)(ep:Int): ∀e∈(sweepF b ep).op,EnK al e:=by
 intro e he;obtain⟨e0,he0,rfl⟩:=List.mem_map.1 (show e∈b.op.map (swE ep) from he);obtain⟨h1,h2⟩:=sweep_e ep e0;have h3:=h e0 he0;unfold EnK at h3 ⊢;rw[h1,h2];exact h3
theorem Fw_swp(h:Fw m b)(ep:Int):Fw m (sweepF b ep):=by
 refine Fw_op h _ (by rw[List.length_map];exact h.ol) (fun e he=>?_);obtain⟨e0,he0,rfl⟩:=List.mem_map.1 he;obtain⟨h1,h2⟩:=sweep_e ep e0;have h3:=h.en e0 he0;unfold EOk at h3 ⊢;rw[h1,h2];exact h3
theorem shN_lt(h:Vp m p){i:Int}(hi:0≤i):shN p i<p.bs.length:=by
 have h1:=h.nb;have h2:=h.sh;obtain⟨k,hk,hk2⟩:=tmod_at i p.bs.length hi (by omega);rw[shN_of rfl hk];exact hk2
theorem lok_ok2{a s p q n t:Int}(h: ¬(lokF ac sy a s p q n t).1≠0):1≤p∧1≤q∧0≤a∧a<(ac.length:Int)∧p*q≤9223372036854775807∧0≤p*q∧(lokF ac sy a s p q n t).2=p*q:=by
 have h':(lokF ac sy a s p q n t).1=0:=by omega
 unfold lokF at h' ⊢;split at h'
 ·simp at h'
 ·rename_i c1
  rw[if_neg c1];split at h'
  ·simp at h'
  ·rename_i c2
   rw[if_neg c2];split at h'
   ·simp at h'
   ·rename_i c3
    rw[if_neg c3];split at h'
    ·simp at h'
    ·rename_i c4
     rw[if_neg c4];split at h'
     ·simp at h'
     ·rename_i c5
      rw[if_neg c5];split at h'
      ·simp at h'
      ·rename_i c6
       rw[if_neg c6];split at h'
       ·simp at h'
       ·rename_i c7
        rw[if_neg c7];have h5:Fix.inB (p*q)=true:=by simpa using c5
        simp only[Fix.inB,Bool.and_eq_true,decide_eq_true_eq]at h5;have h6:inR ac.length a=true:=by simpa using c2
        obtain⟨h7,h8⟩:=inR_of h6;exact⟨by omega,by omega,h7,h8,h5.2,Int.mul_nonneg (by omega) (by omega),rfl⟩
theorem Vp_off(h:Vp m p)(b:Bool):Vp m {p with off:=b}:=⟨h.n,h.a,h.a1,h.s,h.ws,h.wa,h.sh,h.nb,h.wi,h.bk,h.cr,h.ep⟩
theorem Vp_ep(h:Vp m p)(b:Bool)(x:Int)(h0:0≤x∧x≤m):Vp m {p with off:=b,ep:=x}:=⟨h.n,h.a,h.a1,h.s,h.ws,h.wa,h.sh,h.nb,h.wi,h.bk,h.cr,h0⟩
theorem Vp_ord(h:Vp m p)(o:Od)(ht:inI o.t)(hp:inI o.p)(hq:inI o.q):Vp (m+1) (ordF p o).1:=by
 have hm:=h.mono (Nat.le_succ m);unfold ordF;split
 ·exact hm
 ·split
  ·exact hm
  ·rename_i h1
   split
   ·exact hm
   ·split
    ·exact hm
    ·obtain⟨g1,g2,g3,g4,g5,g6,g7⟩:=lok_ok2 (ac:=p.ac) (sy:=p.sy) (a:=o.a) (s:=o.s) (p:=o.p) (q:=o.q) (n:=o.n) (t:=o.t) h1
     have hb: ∀s,s<p.bs.length→(Fw (m+1) (Bks.addF p.sh p.wi (gB p.bs s) o p.ep)∧(Bks.addF p.sh p.wi (gB p.bs s) o p.ep).rows.length=p.ac.length)∧ ∀e∈(Bks.addF p.sh p.wi (gB p.bs s) o p.ep).op,EnK p.ac.length e:=by
      intro s hs;have h2:=h.bk _ (gB_mem hs);refine⟨⟨Fw_add h2.1.1 p.sh p.wi o p.ep ht hp hq,?_⟩,fun e he=>?_⟩
      ·show(List.set _ _ _).length=_;rw[List.length_set];exact h2.1.2
      ·have he':e∈(gB p.bs s).op++[_]:=he;rcases List.mem_append.1 he' with h3|h3
       ·exact h2.2 e h3
       ·simp only[List.mem_cons,List.not_mem_nil,or_false]at h3;rw[h3];exact⟨g3,g4,g1,g2,g5⟩
     by_cases hs:shaP p o<p.bs.length
     ·have k1:=Vp_set hm (shaP p o) _ (hb _ hs);exact Vp_cu k1 _ (g_res h.cr _ _)
     ·have e:p.bs.set (shaP p o) (Bks.addF p.sh p.wi (gB p.bs (shaP p o)) o p.ep)=p.bs:=List.set_eq_of_length_le (Nat.le_of_not_lt hs);rw[e];exact Vp_cu hm _ (g_res h.cr _ _)
theorem Vp_do(h:Vp m p)(o:Opn)(ht:inI o.m.t)(hp:inI o.m.p)(hq:inI o.m.q):Vp (m+1) (doF p o).1:=by
 have hm:=h.mono (Nat.le_succ m);have all: ∀s,s<p.bs.length→(Fw m (gB p.bs s)∧(gB p.bs s).rows.length=p.ac.length)∧ ∀e∈(gB p.bs s).op,EnK p.ac.length e:=fun s hs=>h.bk _ (gB_mem hs)
 unfold doF;split
 ·unfold swpF;split
  ·rename_i h1
   have h2:0≤o.sx∧o.sx<(p.bs.length:Int):=by simpa[hasF] using h1
   have h3:=all o.sx.toNat (by omega);exact(Vp_set h _ _ ⟨⟨Fw_swp h3.1.1 _,h3.1.2⟩,en_sweep h3.2 _⟩).mono (Nat.le_succ m)
  ·exact hm
 ·split
  ·exact hm
  ·rename_i hr
   have hr':rightM o.m=true:=by simpa using hr
   obtain⟨_,_,_,hfit⟩:=rightM_of hr';have hi0:0≤o.m.i:=hfit.2.2.2.1.1;have hs:=shN_lt h hi0;have h3:=all _ hs;split
   ·exact Vp_ord h _ ht hp hq
   ·split
    ·unfold canF;split
     ·exact hm
     ·exact(Vp_set h _ _ ⟨⟨Fw_cancel h3.1.1 _,by rw[rows_cancel];exact h3.1.2⟩,en_cancel h3.2 _⟩).mono (Nat.le_succ m)
    ·split
     ·unfold filF;split
      ·exact hm
      ·have k1:=Vp_set h (shN p o.m.i) (fillF (gB p.bs (shN p o.m.i)) o.m.i o.m.y).1 ⟨⟨Fw_fill h3.1.1 _ _,by rw[rows_fill];exact h3.1.2⟩,en_fill h3.2 _ _⟩;exact(Vp_cu k1 _ ⟨h.cr.okt,h.cr.one,h.cr.few,(uok_rel h.cr.uok _ _).2.trans h.cr.len,(uok_rel h.cr.uok _ _).1⟩).mono (Nat.le_succ m)
     ·split
      ·unfold akF;split
       ·exact hm
       ·have k1:=Vp_set h (shN p o.m.i) (ackF (gB p.bs (shN p o.m.i)) o.m.i).1 ⟨⟨Fw_ack h3.1.1 _,by rw[rows_ack];exact h3.1.2⟩,en_ack h3.2 _⟩;exact(Vp_cu k1 _ ⟨h.cr.okt,h.cr.one,h.cr.few,(uok_rel h.cr.uok _ _).2.trans h.cr.len,(uok_rel h.cr.uok _ _).1⟩).mono (Nat.le_succ m)
      ·split
       ·exact Vp_off hm true
       ·split
        ·show Vp (m+1) (rearmF p).1;unfold rearmF;split
         ·exact Vp_ep hm false _ (by have:=h.ep;omega)
         ·exact hm
        ·unfold lmtF;split
         ·exact hm
         ·exact Vp_cl hm _ ⟨(okt_lim h.cr.okt _ _).1,by rw[(okt_lim h.cr.okt _ _).2];exact h.cr.one,by rw[(okt_lim h.cr.okt _ _).2];exact h.cr.few,by rw[(okt_lim h.cr.okt _ _).2];exact h.cr.len,h.cr.uok⟩
theorem Vp_begin{sh wi ra ta:Int}{nd:List (Int×Int)}(hc:cfgF sh wi ra ta nd ac sy=0)(ho:Okt nd)(h1:1≤nd.length)(h2:nd.length≤32)(hw:WfS sy)(ha:WfI ac):Vp 0 (bgnP sh wi ra ta nd ac sy):=by
 obtain⟨hsz,hchk,ha1,ha2,hacc,hs1,hs2,htab⟩:=cfg_ok hc;obtain⟨z1,z2,z3,z4,z5,z6,z7,z8⟩:=siz_ok hsz;refine⟨by show nd.length≤100;omega,by show ac.length≤100;omega,ha1,by show sy.length≤100;omega,hw,ha,⟨z1,by show sh≤1000;omega⟩,?_,⟨z3,by show wi≤1000;omega⟩,?_,?_,⟨Int.le_refl _,Int.le_refl _⟩⟩
 ·show(((List.range sh.toNat).map _).length:Int)=sh;rw[List.length_map,List.length_range];omega
 ·intro b hb;obtain⟨k,hk,rfl⟩:=List.mem_map.1 (show b∈(List.range sh.toNat).map (fun k:Nat=>beginF ac.length (k:Int)) from hb);have hk':=List.mem_range.1 hk;refine⟨⟨Fw_begin (n:=ac.length) (sh:=(k:Int)) (by omega) (by omega) (by omega),by show(List.replicate ac.length ro0).length=_;rw[List.length_replicate];rfl⟩,fun e he=>by cases he⟩
 ·exact⟨ho,h1,h2,List.length_replicate,fun i hi=>by
   have hi':i<nd.length:=by
    have h:i<(zeros nd.length).length:=hi
    rwa[show(zeros nd.length).length=nd.length from List.length_replicate]at h
   show 0≤gI (zeros nd.length) i∧_
   simp[gI,zeros,hi',bgnP]⟩
end Mdq
namespace Mde
open Abv Mdq
open Mdo hiding gB
variable {q:Mq} {base g:Nat} {w w':World}
theorem blk_ne{a b:Nat}{ta tb:TypeId}{ca cb:Array Value}(h:Blk w a ta ca)(k:Blk w b tb cb)(ht:ta≠tb):a≠b:=by
 intro e;subst e;unfold Blk at h k;rw[h]at k;injection k with k
 injection k with _ k2 _
 exact ht k2
theorem blk_do{z:Nat}{te:TypeId}{cs:Array Value}(h:Blk w z te cs)(M:Mm base w g q)(h1:te≠97)(h2:te≠75)(k:Kp w w' g q.Ab):Blk w' z te cs:=
 (k.block z h.lt (blk_ne h M.blk h1) (fun b hb e=>blk_own_ne h M.row h2 (by rw[hb,e];rfl))).trans h
theorem rd_kp{Ab X:Option Addr}{xs:List Value}(h:Rd w w.heap.size X xs)(k:Kp w w' g Ab)(hf:Far g Ab X xs):Rd w' w'.heap.size X xs:=by
 rcases hf with hf|hf
 ·exact .inl hf
 ·rcases h with h|⟨b,o,hA,hb,hc⟩
  ·exact .inl h
  ·refine .inr ⟨b,o,hA,Nat.lt_of_lt_of_le hb k.size,fun i v hi=>?_⟩;rw[World.cell?_of_block (a:=⟨b,o+i,none⟩) (k.block b hb (hf _ hA).1 (fun b' hb'=>(hf _ hA).2 b' hb'))];exact hc i v hi
theorem below_kp{w0:World}(hb:Below w0.heap.size w0 w)(M:Mm base w g q)(k:Kp w w' g q.Ab)(hbase:w0.heap.size≤base):Below w0.heap.size w0 w':=by
 refine⟨k.os.trans hb.os,k.tape.trans hb.tape,k.output.trans hb.output,Nat.le_trans hb.size k.size,fun i hi=>?_⟩;have h1:=M.gb;refine(k.block i (Nat.lt_of_lt_of_le hi hb.size) (by omega) (fun b hb'=>?_)).trans (hb.block i hi);have h2:=(World.ownsRow.lt M.row b.block (by rw[hb'];rfl)).1;omega
def MadeE(base g m:Nat)(q:Mq)(P:Pm)(cd id:Int)(outs:List (Int×Int))(w0 w:World)(e:Ending)(w':World):Prop:=
 ∃q' Ao no co,e= .returned (.tuple #[.agg #[.int .i64 cd,.int .i64 id],.slice Ao no co])∧no=outs.length∧Nds w' w'.heap.size Ao outs∧(∀a,Ao=some a→w.heap.size≤a.block)∧Mm base w' g q'∧plO q'=P∧Vp (m+1) (plO q')∧Below w0.heap.size w0 w'∧q'.Ab=q.Ab∧Kp w w' g q.Ab
theorem do_e(base g m:Nat)(q:Mq)(mk ma ms mp mq mn mt mi my mz mv sx ex:Int)(mx sw:Bool)(w0 w:World)(h:Hid (Mm base w g q))(hv:Hid (Vp m (plO q)))(hm:m≤900)(hb:Below w0.heap.size w0 w)(hbase:w0.heap.size≤base)
  (hp:inI mp)(hq:inI mq)(ht:inI mt)(hy:my≤9223372036854775807)(hV:mv≤9223372036854775807)(hsx:inI sx)(hex0: -9223372036854775808≤ex)(hex1:ex≤9223372036854775807)
  {P:Pm}{cd id:Int}{outs:List (Int×Int)}(hd:doF (plO q) ⟨⟨mk,ma,ms,mx,mp,mq,mn,mt,mi,my,mz,mv⟩,sw,sx,ex⟩=(P,(cd,id,outs))):
  Calls Tryz.prog 13 #[.pointer (some ⟨g,0,none⟩),.agg #[.int .i64 mk,.int .i64 ma,.int .i64 ms,.bool mx,.int .i64 mp,.int .i64 mq,.int .i64 mn,.int .i64 mt,.int .i64 mi,.int .i64 my,.int .i64 mz,.int .i64 mv,.bool sw,.int .i64 sx,.int .i64 ex]] w (MadeE base g m q P cd id outs w0 w):=by
 have hV2:=Vq_of h.out hv.out;have hep:=hv.out.ep
 have hep2:0≤q.ep∧q.ep≤1000000000:=by
  have h1:0≤q.ep∧q.ep≤(m:Int):=hep;omega
 have hvp:=Vp_do hv.out ⟨⟨mk,ma,ms,mx,mp,mq,mn,mt,mi,my,mz,mv⟩,sw,sx,ex⟩ ht hp hq;have hd1:=do_any base g m q mk ma ms mp mq mn mt mi my mz mv sx ex mx sw w h hV2.1 hm hV2.2 hep2 hp hq hy hV hsx hex0 hex1;rw[hd]at hd1;rw[hd]at hvp;refine hd1.mono ?_;rintro e w' ⟨q',Ao,no,co,rfl,h1,h2,h3,h4,h5,h6,h7,h8⟩;exact⟨q',Ao,no,co,rfl,h1,h2,h3,h4,h5,by rw[h5];exact hvp,below_kp hb h.out h7 hbase,h6,h7⟩
end Mde
end Go.Proofs.YtfbajlcljfjbkaaGreat
