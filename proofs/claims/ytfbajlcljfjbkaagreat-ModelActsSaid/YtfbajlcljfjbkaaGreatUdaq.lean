/- Texts side by side. -/
import Derived.Deep.Fields
import Derived.SizedLaws
import Derived.Test.YtfbajlcljfjbkaaGreatUdac
import Derived.Test.YtfbajlcljfjbkaaGreatUdal
import Derived.Test.YtfbajlcljfjbkaaGreatUdap
import Derived.Test.YtfbajlcljfjbkaaGreatUdar
import Derived.Test.YtfbajlcljfjbkaaGreatUdas
set_option linter.unusedVariables false
set_option linter.unusedSimpArgs false
set_option maxRecDepth 100000
set_option maxHeartbeats 16000000
namespace Go.Proofs.YtfbajlcljfjbkaaGreat
open Kap Go.ChangeShapes Go.WideShapes Go.RowKit Mem
namespace Lac
open Go.ChangeAt Tre Ref3 Law3 Fix3 Cfg Crd CrdB CrdC St7 Fcf Fown Rul7 Tl5 Gdc Bkp Bks Bkf Bcl Dlk Stk Apt Bko Bku Bka Bkc Bkq Wpl Mdd Mdq Mde Rmp Mdp
open Mdz (Mz FarE FzB Mz_of)
open Mds (Pm plO)
variable {q qo:Mq} {b2 base bo g h:Nat} {w w':World}
theorem rm_kp(M:Rm base w g q)(O:Mm b2 w h qo)(hb:qo.Ab=some ⟨bo,0,none⟩)(k:Kp w w' h qo.Ab)(z1:Mz h g q)(z2:Mz bo g q):Rm base w' g q:=by
 have f: ∀{X:Option Addr} {xs:List Value},FarE h X xs→FarE bo X xs→Far h qo.Ab X xs:=by
  intro X xs f1 f2;rcases f1 with f1|f1
  ·exact .inl f1
  ·rcases f2 with f2|f2
   ·exact .inl f2
   ·refine .inr fun a ha=>⟨f1 a ha,fun b hb2=>?_⟩
    rw[hb]at hb2;cases hb2;exact f2 a ha
 have s:=fun {X:Option Addr} {xs:List Value} (hr:Rd w w.heap.size X xs) (f1:FarE h X xs) (f2:FarE bo X xs)=>rd_kp hr k (f f1 f2)
 refine⟨?_,?_,M.gb,M.l1,M.l2,M.l3,M.l4,M.l5,M.l6,s M.nds z1.z1 z2.z1,s M.ris z1.z2 z2.z2,s M.smb z1.z3 z2.z3,s M.cn z1.z4 z2.z4,s M.cr z1.z5 z2.z5,fun i hi=>⟨s (M.bm i hi).r (z1.zx i hi).1 (z2.zx i hi).1,(M.bm i hi).e,fun j hj=>s ((M.bm i hi).n j hj) ((z1.zx i hi).2.2 j hj) ((z2.zx i hi).2.2 j hj),s (M.bm i hi).o (z1.zx i hi).2.1 (z2.zx i hi).2.1⟩,M.f1,M.f2,M.f3,M.f4,M.f5,M.fx⟩
 ·exact(k.block g M.blk.lt (blk_ne M.blk O.blk (by decide)) (fun b hb2 e=>blk_own_ne M.blk O.row (by decide) (by rw[hb2,e];rfl))).trans M.blk
 ·refine⟨M.row.1,?_⟩;rcases M.row.2 with h2|⟨kk,cap,cur,hv,hg,hh,r⟩
  ·exact .inl h2
  ·refine .inr ⟨kk,cap,cur,hv,hg,?_,r⟩
   have hlt:kk<w.heap.size:=by
    by_cases hl:kk<w.heap.size
    ·exact hl
    ·rw[Array.getElem?_eq_none (by omega)]at hh;cases hh
   rw[k.block kk hlt ?_ ?_]
   ·exact hh
   ·rintro rfl;have h5:=O.blk;unfold Blk at h5;rw[hh]at h5;injection h5 with h5
    injection h5 with _ h6 _
    exact absurd h6 (by decide)
   ·intro b hb2 e;rcases O.row.2 with⟨hv2,_⟩|⟨k2,cap2,cur2,hv2,_,hh2,_⟩
    ·rw[hb2]at hv2;cases hv2
    ·rw[hb2]at hv2;injection hv2 with h5 _ _
     have h6:b=(α k2 0):=Option.some.inj h5;rw[h6]at e;have e':kk=k2:=e;rw[←e',hh]at hh2;injection hh2 with hh2
     injection hh2 with _ h7 _
     exact absurd h7 (by decide)
theorem mm_kp(M:Mm base w g q)(O:Rm b2 w h qo)(hb:qo.Ab=some ⟨bo,0,none⟩)(k:Kp w w' h qo.Ab)(z1:Mz h g q)(z2:Mz bo g q):Mm base w' g q:=by
 have f: ∀{X:Option Addr} {xs:List Value},FarE h X xs→FarE bo X xs→Far h qo.Ab X xs:=by
  intro X xs f1 f2;rcases f1 with f1|f1
  ·exact .inl f1
  ·rcases f2 with f2|f2
   ·exact .inl f2
   ·refine .inr fun a ha=>⟨f1 a ha,fun b hb2=>?_⟩
    rw[hb]at hb2;cases hb2;exact f2 a ha
 have s:=fun {X:Option Addr} {xs:List Value} (hr:Rd w w.heap.size X xs) (f1:FarE h X xs) (f2:FarE bo X xs)=>rd_kp hr k (f f1 f2)
 refine⟨?_,?_,M.gb,M.l1,M.l2,M.l3,M.l4,M.l5,M.l6,s M.nds z1.z1 z2.z1,s M.ris z1.z2 z2.z2,s M.smb z1.z3 z2.z3,s M.cn z1.z4 z2.z4,s M.cr z1.z5 z2.z5,fun i hi=>⟨s (M.bm i hi).r (z1.zx i hi).1 (z2.zx i hi).1,(M.bm i hi).e,fun j hj=>s ((M.bm i hi).n j hj) ((z1.zx i hi).2.2 j hj) ((z2.zx i hi).2.2 j hj),s (M.bm i hi).o (z1.zx i hi).2.1 (z2.zx i hi).2.1⟩,M.f1,M.f2,M.f3,M.f4,M.f5,M.fx⟩
 ·exact(k.block g M.blk.lt (blk_ne M.blk O.blk (by decide)) (fun b hb2 e=>blk_own_ne M.blk O.row (by decide) (by rw[hb2,e];rfl))).trans M.blk
 ·refine⟨M.row.1,?_⟩;rcases M.row.2 with h2|⟨kk,cap,cur,hv,hg,hh,r⟩
  ·exact .inl h2
  ·refine .inr ⟨kk,cap,cur,hv,hg,?_,r⟩
   have hlt:kk<w.heap.size:=by
    by_cases hl:kk<w.heap.size
    ·exact hl
    ·rw[Array.getElem?_eq_none (by omega)]at hh;cases hh
   rw[k.block kk hlt ?_ ?_]
   ·exact hh
   ·rintro rfl;have h5:=O.blk;unfold Blk at h5;rw[hh]at h5;injection h5 with h5
    injection h5 with _ h6 _
    exact absurd h6 (by decide)
   ·intro b hb2 e;rcases O.row.2 with⟨hv2,_⟩|⟨k2,cap2,cur2,hv2,_,hh2,_⟩
    ·rw[hb2]at hv2;cases hv2
    ·rw[hb2]at hv2;injection hv2 with h5 _ _
     have h6:b=(α k2 0):=Option.some.inj h5;rw[h6]at e;have e':kk=k2:=e;rw[←e',hh]at hh2;injection hh2 with hh2
     injection hh2 with _ h7 _
     exact absurd h7 (by decide)
structure Iv(w0 w:World)(base base' gm gr bm br:Nat)(P P':Pm)(qm qr:Mq):Prop where
 M:Mm base w gm qm
 R:Rm base' w gr qr
 pm:plO qm=P
 pr:plO qr=P'
 cq:Cq qr
 am:qm.Ab=some ⟨bm,0,none⟩
 ar:qr.Ab=some ⟨br,0,none⟩
 z1:Mz gm gr qr
 z2:Mz bm gr qr
 z3:Mz gr gm qm
 z4:Mz br gm qm
 b:Below w0.heap.size w0 w
 hb:w0.heap.size≤base
 hb':w0.heap.size≤base'
section
variable {w0 w w':World} {base base' gm gr bm br:Nat} {P P' P1:Pm} {qm qr q':Mq}
theorem Iv.below(h:Iv w0 w base base' gm gr bm br P P' qm qr)(hb:Below w.heap.size w w'):Iv w0 w' base base' gm gr bm br P P' qm qr:=
 ⟨Mm_below h.M hb,Rm_below h.R hb,h.pm,h.pr,h.cq,h.am,h.ar,h.z1,h.z2,h.z3,h.z4,CrdB.below_step h.b hb,h.hb,h.hb'⟩
theorem Iv.lt(h:Iv w0 w base base' gm gr bm br P P' qm qr):gm<w.heap.size∧bm<w.heap.size∧gr<w.heap.size∧br<w.heap.size:=
 ⟨(Mm_lt h.M).1,(Mm_lt h.M).2 ⟨bm,0,none⟩ h.am,(Rm_lt h.R).1,(Rm_lt h.R).2 ⟨br,0,none⟩ h.ar⟩
theorem Iv.mdo(h:Iv w0 w base base' gm gr bm br P P' qm qr)(M:Mm base w' gm q')(hp:plO q'=P1)(hA:q'.Ab=qm.Ab)(k:Kp w w' gm qm.Ab)(hz: ∀z,z<w.heap.size→Mz z gm qm→Mz z gm q'):Iv w0 w' base base' gm gr bm br P1 P' q' qr:=
 ⟨M,rm_kp h.R h.M h.am k h.z1 h.z2,hp,h.pr,h.cq,hA.trans h.am,h.ar,h.z1,h.z2,hz gr h.lt.2.2.1 h.z3,hz br h.lt.2.2.2 h.z4,below_kp h.b h.M k h.hb,h.hb,h.hb'⟩
theorem below_kpr{w0:World}(hb:Below w0.heap.size w0 w)(M:Rm base w g q)(k:Kp w w' g q.Ab)(hbase:w0.heap.size≤base):Below w0.heap.size w0 w':=by
 refine⟨k.os.trans hb.os,k.tape.trans hb.tape,k.output.trans hb.output,Nat.le_trans hb.size k.size,fun i hi=>?_⟩;have h1:=M.gb;refine(k.block i (Nat.lt_of_lt_of_le hi hb.size) (by omega) (fun b hb'=>?_)).trans (hb.block i hi);have h2:=(World.ownsRow.lt M.row b.block (by rw[hb'];rfl)).1;omega
theorem Iv.rdo(h:Iv w0 w base base' gm gr bm br P P' qm qr)(M:Rm base' w' gr q')(hp:plO q'=P1)(hA:q'.Ab=qr.Ab)(k:Kp w w' gr qr.Ab)(hz: ∀z,z<w.heap.size→Mz z gr qr→Mz z gr q')(hc:Cq q'):Iv w0 w' base base' gm gr bm br P P1 qm q':=
 ⟨mm_kp h.M h.R h.ar k h.z3 h.z4,M,h.pm,hp,hc,h.am,hA.trans h.ar,hz gm h.lt.1 h.z1,hz bm h.lt.2.1 h.z2,h.z3,h.z4,below_kpr h.b h.R k h.hb',h.hb,h.hb'⟩
theorem blk_dor{z:Nat}{te:TypeId}{cs:Array Value}(h:Blk w z te cs)(M:Rm base w g q)(h1:te≠106)(h2:te≠110)(k:Kp w w' g q.Ab):Blk w' z te cs:=
 (k.block z h.lt (blk_ne h M.blk h1) (fun b hb e=>blk_own_ne h M.row h2 (by rw[hb,e];rfl))).trans h
end
def MadeGd(w:World)(e:Ending)(w':World):Prop:= ∃sh wi ra ta nd ac sy,GoodC sh wi ra ta nd ac sy∧Okt nd∧MadeCf sh wi ra ta nd ac sy w e w'
theorem fixd_any(sh wi ra ta:Int)(A B C:Option Addr)(c d f:Nat)(nd:List (Int×Int))(ac:List Int)(sy:List (Int×Int×Int×Nat))(w:World)
  (hl:Hid (Nds w w.heap.size A nd))(hu:Hid (Ris w w.heap.size B ac))(hs:Hid (Smb w w.heap.size C sy))(hw:Hid (WfN nd))(hwa:Hid (WfI ac))(hws:Hid (WfS sy))(hmax:(nd.length:Int)≤4611686018427387904)(hmay:(ac.length:Int)≤4611686018427387904)(hmaz:(sy.length:Int)≤4611686018427387904):
  Calls Tryz.prog 5 #[.agg #[.int .i64 sh,.int .i64 wi,.int .i64 ra,.int .i64 ta,.slice A nd.length c,.slice B ac.length d,.slice C sy.length f]] w (MadeGd w):=
 (fix5_any sh wi ra ta A B C c d f nd ac sy w hl hu hs hw hwa hws hmax hmay hmaz).mono fun e w' h=>⟨_,_,_,_,_,_,_,good_fix sh wi ra ta nd ac sy hws.out,okt_fixF nd,h⟩
end Lac
namespace Lst
open Go.ChangeAt Tre Ref3 Law3 Fix3 Cfg Crd CrdB CrdC St7 Bkp Bks Bkf Bcl Dlk Stk Apt Bko Bku Bka Bkc Bkq Wpl Mdd Mdq Mde Rmp Lac Mdp
open Mdz (Mz FarE FzB Mz_of FarE_of)
open Mds (Pm plO)
open Mdg (bgnP)
open Mdv (bookF)
open Mdn (hasF)
theorem iv_start{w0 w4 w5 w6:World}{gm gr:Nat}{qm qr:Mq}{P:Pm}{A B C:Option Addr}{nd:List (Int×Int)}{ac:List Int}{sy:List (Int×Int×Int×Nat)}(M:Mm w4.heap.size w5 gm qm)(hb:Below w5.heap.size w5 w6)(R:Rm w5.heap.size w6 gr qr)
  (zR: ∀z,z<w5.heap.size→FarE z A (Mem.nds nd)→FarE z B (ints ac)→FarE z C (smbs sy)→Mz z gr qr)(n:Nds w4 w4.heap.size A nd)(r:Ris w4 w4.heap.size B ac)(s:Smb w4 w4.heap.size C sy)(pm:plO qm=P)(pr:plO qr=P)(v:Vp 0 P)(cq:Cq qr)(b:Below w0.heap.size w0 w6)(h04:w0.heap.size≤w4.heap.size)(h45:w4.heap.size≤w5.heap.size):
  ∃bm br,Iv w0 w6 w4.heap.size w5.heap.size gm gr bm br P P qm qr:=by
 have vm:=(Vq_of M (by rw[pm];exact v)).1;have hnm:0<qm.nb:=by have h1:=vm.nb;have h2:=vm.sh;omega
 have hnr:0<qr.nb:=by
  have e1:qr.xs.length=qm.xs.length:=by
   have h1:=congrArg (fun p:Pm=>p.bs.length) (pr.trans pm.symm);simpa[plO] using h1
  rw[R.l4,e1,←M.l4];exact hnm
 obtain⟨bm,am⟩:=own_at M.row hnm;obtain⟨br,ar⟩:=own_at R.row hnr;have hgm:=Mm_lt M;have hbm:=World.ownsRow.lt M.row bm (by rw[am];rfl);have hbr:=World.ownsRow.lt R.row br (by rw[ar];rfl);have f: ∀z,w4.heap.size≤z→z<w5.heap.size→Mz z gr qr:=fun z h1 h2=>zR z h2 (FarE_of n h1) (FarE_of r h1) (FarE_of s h1)
 exact⟨bm,br,Mm_below M hb,R,pm,pr,cq,am,ar,f gm M.gb hgm.1,f bm hbm.1 hbm.2,Mz_of M R.gb,Mz_of M hbr.1,b,h04,Nat.le_trans h04 h45⟩
theorem do_sh(p:Pm)(o:Opn):(doF p o).1.sh=p.sh:=by
 unfold doF;split
 ·unfold Mdy.swpF;split<;>rfl
 ·split
  ·rfl
  ·split
   ·unfold Mdo.ordF;repeat' split
    all_goals rfl
   ·split
    ·unfold Mdk.canF;repeat' split
     all_goals rfl
    ·split
     ·unfold Mdj.filF;repeat' split
      all_goals rfl
     ·split
      ·unfold Mdj.akF;repeat' split
       all_goals rfl
      ·split
       ·rfl
       ·split
        ·unfold reaF Mds.rearmF;repeat' split
         all_goals rfl
        ·unfold Mdl.lmtF;repeat' split
         all_goals rfl
theorem do_nd(p:Pm)(o:Opn):(doF p o).1.nd=p.nd∧(doF p o).1.ac=p.ac:=by
 unfold doF;split
 ·unfold Mdy.swpF;split<;>exact⟨rfl,rfl⟩
 ·split
  ·exact⟨rfl,rfl⟩
  ·split
   ·unfold Mdo.ordF;repeat' split
    all_goals exact⟨rfl,rfl⟩
   ·split
    ·unfold Mdk.canF;repeat' split
     all_goals exact⟨rfl,rfl⟩
    ·split
     ·unfold Mdj.filF;repeat' split
      all_goals exact⟨rfl,rfl⟩
     ·split
      ·unfold Mdj.akF;repeat' split
       all_goals exact⟨rfl,rfl⟩
      ·split
       ·exact⟨rfl,rfl⟩
       ·split
        ·unfold reaF Mds.rearmF;repeat' split
         all_goals exact⟨rfl,rfl⟩
        ·unfold Mdl.lmtF;repeat' split
         all_goals exact⟨rfl,rfl⟩
theorem do_outs{m:Nat}{p:Pm}(h:Vp m p)(hm:m≤900)(o:Opn):(doF p o).2.2.2.length≤1000:=by
 unfold doF;split
 ·unfold Mdy.swpF;split
  ·rename_i h1
   have h2:0≤o.sx∧o.sx<(p.bs.length:Int):=by simpa[hasF] using h1
   have h3:=((h.bk _ (Mdq.gB_mem (i:=o.sx.toNat) (by omega))).1.1.few (by omega)).ol;have h4:=List.length_filter_le (Bkw.swC o.ex) (Mdo.gB p.bs o.sx.toNat).op;show(Mdy.outC _).length≤1000;simp only[Mdy.outC,Bkw.swI,List.length_map];omega
  ·exact Nat.zero_le _
 ·split
  ·exact Nat.zero_le _
  ·split
   ·unfold Mdo.ordF;repeat' split
    all_goals simp
   ·split
    ·unfold Mdk.canF;repeat' split
     all_goals simp
    ·split
     ·unfold Mdj.filF;repeat' split
      all_goals simp
     ·split
      ·unfold Mdj.akF;repeat' split
       all_goals simp
      ·split
       ·exact Nat.zero_le _
       ·split
        ·exact Nat.zero_le _
        ·unfold Mdl.lmtF;repeat' split
         all_goals simp
theorem book_out{q:Mq}{i:Int}(h:i<0∨(q.nb:Int)≤i):bookF q i=Mdo.bk0:=by
 unfold bookF;rw[if_neg];unfold hasF;simp;omega
end Lst
namespace Opc
open Opn Cfg Go.Joins Go.Deep
variable {held:Bool} {p:List MemPlace} {b0 base n:Nat} {t:TypeId} {v:Value} {w:World}
section
variable {H:Type} {enc:TypeId×Value→H} {P:Program} {w:World} {base:Nat} {spare:Nat→Bool} {held:Bool}
end
section
variable {H:Type} {enc:TypeId×Value→H} {P:Program} {w:World}
theorem u64_bd{a:Int}(h:(Lit.int .u64 a).wf=true):0≤a∧a<18446744073709551616:=by
 simp[Lit.wf]at h;have e:IntKind.u64.max=18446744073709551615:=rfl;have e0:IntKind.u64.min=0:=rfl;have h2:a≤IntKind.u64.max:=by first|exact h.2|exact h
 have h1:IntKind.u64.min≤a:=by first|exact h.1|exact h
 omega
theorem open_fours{e:TypeId}{f0 f1 f2 f3:Field}{fuel:Nat}{x:DataW H×List MemPlace}(ht:P.underlying t=some (.slice e))(he:P.underlying e=some (.struct #[f0,f1,f2,f3]))(ce:P.cellsOf e=4)(o0:f0.offset=0)(o1:f1.offset=1)(o2:f2.offset=2)(o3:f3.offset=3)
  (c0:P.cellsOf f0.type=1)(c1:P.cellsOf f1.type=1)(c2:P.cellsOf f2.type=1)(c3:P.cellsOf f3.type=1)(u0:P.underlying f0.type=some (.int .i64))(u1:P.underlying f1.type=some (.int .i64))(u2:P.underlying f2.type=some (.int .i64))(u3:P.underlying f3.type=some (.int .u64))
  (hf:DataW.trod enc P w base (fun _=>true) held fuel t [v]=some x):
  ∃A c l,v= .slice A l.length c∧l.length≤c∧c≤maxLen∧Btb w w.heap.size A l∧WfS l:=by
 rcases Go.Deep.open_slice ht hf with⟨hc,_⟩|⟨a,len,cap,m,n,D,Pl,hc,hb,hl,hm,hmm,_,hx⟩
 ·injection hc with hc
  exact⟨none,0,[],hc,by simp,by unfold maxLen;omega,.inl rfl,fun i hi=>by simp at hi⟩
 ·injection hc with hc
  subst hc;have hm2:m=cap:=by rw[hmm];simp
  subst hm2
  have key: ∀i,i<m→ ∃q:Int×Int×Int×Nat,w.cell? (a.add (i*4))=some (.int .i64 q.1)∧w.cell? (a.add (i*4+1))=some (.int .i64 q.2.1)∧w.cell? (a.add (i*4+2))=some (.int .i64 q.2.2.1)∧w.cell? (a.add (i*4+3))=some (.int .u64 (q.2.2.2:Int))∧inI q.1∧inI q.2.1∧inI q.2.2.1∧q.2.2.2<18446744073709551616:=by
   intro i hi;obtain⟨cs',h1,h2⟩:=hx i hi;rw[ce]at h1;obtain⟨_,hlen,hcell⟩:=World.cells?_some h1;obtain⟨xs,k,hk,hxy,_,hxl,hfs⟩:=DataW.trod_struct he h2
   match xs,hxl,cs',hlen with
   |[y0,y1,y2,y3],_,[v0,v1,v2,v3],_=>
    have g0:=hfs 0 f0 rfl;have g1:=hfs 1 f1 rfl;have g2:=hfs 2 f2 rfl;have g3:=hfs 3 f3 rfl;simp[o0,o1,o2,o3,c0,c1,c2,c3]at g0 g1 g2 g3;have e0:=hcell 0 (by omega);have e1:=hcell 1 (by omega);have e2:=hcell 2 (by omega);have e3:=hcell 3 (by omega);rw[Go.Deep.add_add]at e0 e1 e2 e3;obtain⟨x,hx,_,wx⟩:=DataW.trod_int u0 g0;obtain⟨y,hy,_,wy⟩:=DataW.trod_int u1 g1;obtain⟨z,hz,_,wz⟩:=DataW.trod_int u2 g2;obtain⟨u,hu,_,wu⟩:=DataW.trod_int u3 g3;simp at hx hy hz hu;subst hx hy hz hu;obtain⟨z0,z1⟩:=u64_bd wu;have eu:((u.toNat:Nat):Int)=u:=by omega
    exact⟨(x,y,z,u.toNat),by simpa using e0,by simpa using e1,by simpa using e2,by rw[eu];simpa using e3,wf_in wx,wf_in wy,wf_in wz,by show u.toNat<_;omega⟩
  obtain⟨fx,hfx⟩:=Go.Deep.choose_lt key;have hlen:((List.range len).map fx).length=len:=by simp
  have tk: ∀i,i<len→sP ((List.range len).map fx) i=(fx i).1∧sQ ((List.range len).map fx) i=(fx i).2.1∧sW ((List.range len).map fx) i=(fx i).2.2.1∧sB ((List.range len).map fx) i=(fx i).2.2.2:=fun i hi=>by simp[sP,sQ,sW,sB,hi]
  refine⟨some a,m,(List.range len).map fx,by rw[hlen],by rw[hlen];exact hl,hm,?_,?_⟩
  ·by_cases h0:len=0
   ·subst h0;exact .inl (by simp[btbs])
   ·obtain⟨ab,ao,asp⟩:=a
    have hs:asp=none:=by
     have:=(hfx 0 (by omega)).1;rw[Nat.zero_mul]at this;exact spot_none this
    subst hs;refine .inr ⟨ab,ao,rfl,?_,?_⟩
    ·have:=blk_lt (hfx 0 (by omega)).1;simpa[Addr.add] using this
    ·intro i v hv
     have hil:i<len*4:=by
      have:=(List.getElem?_eq_some_iff.1 hv).1;rwa[btbs_len,hlen]at this
     have hg:=btbs_get ((List.range len).map fx) (i / 4) (by rw[hlen];omega);obtain⟨q0,q1,q2,q3,_⟩:=hfx (i / 4) (by omega);obtain⟨r0,r1,r2,r3⟩:=tk (i / 4) (by omega);rw[r0,r1,r2,r3]at hg;rw[add_lit']at q0 q1 q2 q3;rcases(by omega:i%4=0∨i%4=1∨i%4=2∨i%4=3) with k|k|k|k
     ·have e:i / 4*4=i:=by omega
      rw[e]at hg q0;rw[hg.1]at hv;injection hv with hv
      rw[q0,hv]
     ·have e:i / 4*4+1=i:=by omega
      rw[e]at hg q1;rw[hg.2.1]at hv;injection hv with hv
      rw[q1,hv]
     ·have e:i / 4*4+2=i:=by omega
      rw[e]at hg q2;rw[hg.2.2.1]at hv;injection hv with hv
      rw[q2,hv]
     ·have e:i / 4*4+3=i:=by omega
      rw[e]at hg q3;rw[hg.2.2.2]at hv;injection hv with hv
      rw[q3,hv]
  ·intro i hil;rw[hlen]at hil;obtain⟨_,_,_,_,s0,s1,s2,s3⟩:=hfx i (by omega);obtain⟨r0,r1,r2,r3⟩:=tk i hil;rw[r0,r1,r2,r3];exact⟨s0,s1,s2,s3⟩
theorem one_int{y:DataW H×List MemPlace}{spare:Nat→Bool}(hu:P.underlying t=some (.int .i64))(h:DataW.trod enc P w base spare held n t [v]=some y): ∃x:Int,v= .int .i64 x∧inI x:=by
 obtain⟨x,hx,_,wx⟩:=DataW.trod_int hu h;simp at hx;exact⟨x,hx,wf_in wx⟩
theorem one_bool{y:DataW H×List MemPlace}{spare:Nat→Bool}(hu:P.underlying t=some .bool)(h:DataW.trod enc P w base spare held n t [v]=some y): ∃x:Bool,v= .bool x:=by
 obtain⟨x,hx,_⟩:=DataW.trod_bool hu h;simp at hx;exact⟨x,hx⟩
end
end Opc
namespace Lro
open Opn Opc Wpl Wmr Go.Joins Go.Deep
structure Rw where
 m:M
 wh:Int
 sw:Bool
 sx:Int
 ex:Int
def V16(w:World)(b o:Nat)(r:Rw):Prop:=
 w.cell? ⟨b,o,none⟩=some (.int .i64 r.m.k)∧w.cell? ⟨b,o+1,none⟩=some (.int .i64 r.m.a)∧w.cell? ⟨b,o+2,none⟩=some (.int .i64 r.m.s)∧w.cell? ⟨b,o+3,none⟩=some (.bool r.m.x)∧w.cell? ⟨b,o+4,none⟩=some (.int .i64 r.m.p)∧w.cell? ⟨b,o+5,none⟩=some (.int .i64 r.m.q)∧w.cell? ⟨b,o+6,none⟩=some (.int .i64 r.m.n)∧w.cell? ⟨b,o+7,none⟩=some (.int .i64 r.m.t)∧w.cell? ⟨b,o+8,none⟩=some (.int .i64 r.m.i)∧w.cell? ⟨b,o+9,none⟩=some (.int .i64 r.m.y)∧w.cell? ⟨b,o+10,none⟩=some (.int .i64 r.m.z)∧w.cell? ⟨b,o+11,none⟩=some (.int .i64 r.m.v)∧w.cell? ⟨b,o+12,none⟩=some (.int .i64 r.wh)∧w.cell? ⟨b,o+13,none⟩=some (.bool r.sw)∧w.cell? ⟨b,o+14,none⟩=some (.int .i64 r.sx)∧w.cell? ⟨b,o+15,none⟩=some (.int .i64 r.ex)
def WfR(r:Rw):Prop:=WfM r.m∧inI r.wh∧inI r.sx∧inI r.ex
def Frs(w:World)(B:Nat)(A:Option Addr)(n:Nat):Prop:= ∀i,i<n→ ∃b o r,A=some ⟨b,o,none⟩∧b<B∧WfR r∧V16 w b (o+i*16) r
theorem open_raws{H:Type}{enc:TypeId×Value→H}{w:World}{v:Value}{fuel:Nat}{x:DataW H×List MemPlace}{base:Nat}{held:Bool}
  (hf:DataW.trod enc Tryz.prog w base (fun _=>true) held fuel 27 [v]=some x):
  ∃A n c,v= .slice A n c∧n≤c∧c≤maxLen∧Frs w w.heap.size A n:=by
 have cR:Tryz.prog.cellsOf 54=16:=by kernel_rfl
 have cM:Tryz.prog.cellsOf 49=12:=by kernel_rfl
 have cO:Tryz.prog.cellsOf 47=7:=by kernel_rfl
 have ci:Tryz.prog.cellsOf 3=1:=by kernel_rfl
 have cl:Tryz.prog.cellsOf 2=1:=by kernel_rfl
 have cb:Tryz.prog.cellsOf 4=1:=by kernel_rfl
 rcases Go.Deep.open_slice Tryz.underlying27 hf with⟨hc,_⟩|⟨a,len,cap,m,n,D,Pl,hc,hb,hl,hm,hmm,_,hx⟩
 ·injection hc with hc
  exact⟨none,0,0,hc,by simp,by unfold maxLen;omega,fun i hi=>by omega⟩
 ·injection hc with hc
  subst hc;have hm2:m=cap:=by rw[hmm];simp
  subst hm2;refine⟨some a,len,m,rfl,hl,hm,fun i hi=>?_⟩;obtain⟨ab,ao,asp⟩:=a
  have hs:asp=none:=by
   obtain⟨cs',h1,_⟩:=hx 0 (by omega);rw[cR]at h1;obtain⟨_,hlen,hcell⟩:=World.cells?_some h1;have e0:=hcell 0 (by omega);rw[Go.Deep.add_add]at e0
   match cs',hlen with
   |[v0,v1,v2,v3,v4,v5,v6,v7,v8,v9,v10,v11,v12,v13,v14,v15],_=>exact spot_none (by simpa using e0)
  subst hs;obtain⟨cs',h1,h2⟩:=hx i (by omega);rw[cR]at h1;obtain⟨_,hlen,hcell⟩:=World.cells?_some h1;obtain⟨ys,k0,hk0,hyy,_,hyl,gg⟩:=DataW.trod_struct Tryz.underlying54 h2
  match ys,hyl,cs',hlen with
  |[r0,r1,r2,r3,r4],_,[e0,e1,e2,e3,e4,e5,e6,e7,e8,e9,e10,e11,e12,e13,e14,e15],_=>
   have p0:=gg 0 _ rfl;have p1:=gg 1 _ rfl;have p2:=gg 2 _ rfl;have p3:=gg 3 _ rfl;have p4:=gg 4 _ rfl;simp[cM,ci,cl,cb]at p0 p1 p2 p3 p4;obtain⟨wh,rfl,w12⟩:=one_int Tryz.underlying3 p1;obtain⟨sw,rfl⟩:=one_bool Tryz.underlying4 p2;obtain⟨sx,rfl,w14⟩:=one_int Tryz.underlying3 p3;obtain⟨ex,rfl,w15⟩:=one_int Tryz.underlying2 p4;obtain⟨xs,k,hk,hxy,_,hxl,hg⟩:=DataW.trod_struct Tryz.underlying49 p0
   match xs,hxl with
   |[y0,y1,y2,y3,y4,y5],_=>
    have g0:=hg 0 _ rfl;have g1:=hg 1 _ rfl;have g2:=hg 2 _ rfl;have g3:=hg 3 _ rfl;have g4:=hg 4 _ rfl;have g5:=hg 5 _ rfl;simp[ci,cO,cl]at g0 g1 g2 g3 g4 g5;obtain⟨xs1,n1,_,_,_,hlen1,hg1⟩:=DataW.trod_struct Tryz.underlying47 g1
    match xs1,hlen1 with
    |[u0,u1,u2,u3,u4,u5,u6],_=>
     have q0:=hg1 0 _ rfl;have q1:=hg1 1 _ rfl;have q2:=hg1 2 _ rfl;have q3:=hg1 3 _ rfl;have q4:=hg1 4 _ rfl;have q5:=hg1 5 _ rfl;have q6:=hg1 6 _ rfl;simp[ci,cl,cb]at q0 q1 q2 q3 q4 q5 q6;obtain⟨kk,rfl,w0⟩:=one_int Tryz.underlying3 g0;obtain⟨a,rfl,w1⟩:=one_int Tryz.underlying3 q0;obtain⟨s,rfl,w2⟩:=one_int Tryz.underlying3 q1;obtain⟨xx,rfl⟩:=one_bool Tryz.underlying4 q2;obtain⟨p,rfl,w4⟩:=one_int Tryz.underlying2 q3;obtain⟨q,rfl,w5⟩:=one_int Tryz.underlying2 q4;obtain⟨nn,rfl,w6⟩:=one_int Tryz.underlying2 q5;obtain⟨t,rfl,w7⟩:=one_int Tryz.underlying2 q6;obtain⟨ii,rfl,w8⟩:=one_int Tryz.underlying3 g2;obtain⟨y,rfl,w9⟩:=one_int Tryz.underlying2 g3;obtain⟨z,rfl,w10⟩:=one_int Tryz.underlying3 g4;obtain⟨o,rfl,w11⟩:=one_int Tryz.underlying2 g5;have f0:=hcell 0 (by omega);have f1:=hcell 1 (by omega);have f2:=hcell 2 (by omega);have f3:=hcell 3 (by omega);have f4:=hcell 4 (by omega);have f5:=hcell 5 (by omega);have f6:=hcell 6 (by omega);have f7:=hcell 7 (by omega);have f8:=hcell 8 (by omega);have f9:=hcell 9 (by omega);have f10:=hcell 10 (by omega);have f11:=hcell 11 (by omega);have f12:=hcell 12 (by omega);have f13:=hcell 13 (by omega);have f14:=hcell 14 (by omega);have f15:=hcell 15 (by omega);rw[Go.Deep.add_add]at f0 f1 f2 f3 f4 f5 f6 f7 f8 f9 f10 f11 f12 f13 f14 f15;rw[add_lit']at f0 f1 f2 f3 f4 f5 f6 f7 f8 f9 f10 f11 f12 f13 f14 f15;refine⟨ab,ao,⟨⟨kk,a,s,xx,p,q,nn,t,ii,y,z,o⟩,wh,sw,sx,ex⟩,rfl,blk_lt (by simpa using f0),⟨⟨w0,w1,w2,w4,w5,w6,w7,w8,w9,w10,w11⟩,w12,w14,w15⟩,?_⟩;exact⟨by simpa using f0,by simpa[Nat.add_assoc] using f1,by simpa[Nat.add_assoc] using f2,by simpa[Nat.add_assoc] using f3,by simpa[Nat.add_assoc] using f4,by simpa[Nat.add_assoc] using f5,by simpa[Nat.add_assoc] using f6,by simpa[Nat.add_assoc] using f7,by simpa[Nat.add_assoc] using f8,by simpa[Nat.add_assoc] using f9,by simpa[Nat.add_assoc] using f10,by simpa[Nat.add_assoc] using f11,by simpa[Nat.add_assoc] using f12,by simpa[Nat.add_assoc] using f13,by simpa[Nat.add_assoc] using f14,by simpa[Nat.add_assoc] using f15⟩
end Lro
namespace Ocs
open Opn Cfg Opc Go.Joins Go.Deep
variable {p:List MemPlace} {b0:Nat} {t:TypeId} {v:Value}
section
variable {H:Type} {enc:TypeId×Value→H} {P:Program} {w:World} {base:Nat} {spare:Nat→Bool} {held:Bool}
theorem open_agg7d{r:Reach}{f0 f1 f2 f3 f4 f5 f6:Field}{d:DataW H}(hs:P.underlying t=some (.struct #[f0,f1,f2,f3,f4,f5,f6]))(hone:oneCellFields P #[f0,f1,f2,f3,f4,f5,f6]=true)(hC:P.cellsOf t=7)
  (hv:Value.okWide P w r b0 t v)(h:DataW.Trod enc P w base spare held t v d p):
  ∃(v0 v1 v2 v3 v4 v5 v6:Value) (y0 y1 y2 y3 y4 y5 y6:DataW H×List MemPlace) (n:Nat),v= .agg #[v0,v1,v2,v3,v4,v5,v6]∧d= .agg [y0.1,y1.1,y2.1,y3.1,y4.1,y5.1,y6.1]∧
   DataW.trod enc P w base spare held n f0.type [v0]=some y0∧DataW.trod enc P w base spare held n f1.type [v1]=some y1∧DataW.trod enc P w base spare held n f2.type [v2]=some y2∧DataW.trod enc P w base spare held n f3.type [v3]=some y3∧DataW.trod enc P w base spare held n f4.type [v4]=some y4∧DataW.trod enc P w base spare held n f5.type [v5]=some y5∧DataW.trod enc P w base spare held n f6.type [v6]=some y6:=by
 obtain⟨cs,rfl,hsz⟩:=okWide_struct hs hv;obtain⟨l⟩:=cs
 match l,hsz.trans hC with
 |[c0,c1,c2,c3,c4,c5,c6],_=>
  obtain⟨fuel,hf⟩:=h;obtain⟨xs,n,_,hx,_,hlen,hg⟩:=DataW.trod_struct hs hf;obtain⟨o0,k0⟩:=hone_of hone 0 f0 rfl;obtain⟨o1,k1⟩:=hone_of hone 1 f1 rfl;obtain⟨o2,k2⟩:=hone_of hone 2 f2 rfl;obtain⟨o3,k3⟩:=hone_of hone 3 f3 rfl;obtain⟨o4,k4⟩:=hone_of hone 4 f4 rfl;obtain⟨o5,k5⟩:=hone_of hone 5 f5 rfl;obtain⟨o6,k6⟩:=hone_of hone 6 f6 rfl
  match xs,hlen with
  |[y0,y1,y2,y3,y4,y5,y6],_=>
   injection hx with hx1 hx2
   exact⟨c0,c1,c2,c3,c4,c5,c6,y0,y1,y2,y3,y4,y5,y6,n,rfl,hx1,by simpa[Value.cells,o0,k0] using hg 0 f0 rfl,by simpa[Value.cells,o1,k1] using hg 1 f1 rfl,by simpa[Value.cells,o2,k2] using hg 2 f2 rfl,by simpa[Value.cells,o3,k3] using hg 3 f3 rfl,by simpa[Value.cells,o4,k4] using hg 4 f4 rfl,by simpa[Value.cells,o5,k5] using hg 5 f5 rfl,by simpa[Value.cells,o6,k6] using hg 6 f6 rfl⟩
theorem slice_weight{e:TypeId}{fuel:Nat}{A:Option Addr}{n c:Nat}{x:DataW H×List MemPlace}(ht:P.underlying t=some (.slice e))(h:DataW.trod enc P w base (fun _=>true) held fuel t [.slice A n c]=some x)(hz: ∀k∈x.1.weights P t,k≤reachBytes):n*P.bytesOf e≤reachBytes:=by
 rcases Go.Deep.open_slice ht h with⟨hc,_⟩|⟨a,len,cap,m,k,D,Pl,hc,hb,hl,hm,hmm,hx,_⟩
 ·injection hc with hc
  simp only[Value.slice.injEq]at hc;rw[hc.2.1];simp
 ·injection hc with hc
  simp only[Value.slice.injEq]at hc;rw[hx]at hz;have h2:=hz ((((List.range len).map D).length+((List.range (m-len)).map fun j=>D (len+j)).length)*P.bytesOf e) (by simp[DataW.weights,ht]);rw[hc.2.1];refine Nat.le_trans (Nat.mul_le_mul_right _ ?_) h2;simp
end
theorem open_conf_s{H:Type}{enc:TypeId×Value→H}{w:World}{r:Reach}{base:Nat}{held:Bool}{d:DataW H}(hv:Value.okWide Tryz.prog w r b0 26 v)(h:DataW.Trod enc Tryz.prog w base (fun _=>true) held 26 v d p)(hz: ∀k∈d.weights Tryz.prog 26,k≤reachBytes):
  ∃(sh wi ra ta:Int) (A B C:Option Addr) (c d f:Nat) (nd:List (Int×Int)) (ac:List Int) (sy:List (Int×Int×Int×Nat)),v= .agg #[.int .i64 sh,.int .i64 wi,.int .i64 ra,.int .i64 ta,.slice A nd.length c,.slice B ac.length d,.slice C sy.length f]∧
   inI sh∧inI wi∧inI ra∧inI ta∧(nd.length:Int)≤4611686018427387904∧(ac.length:Int)≤4611686018427387904∧(sy.length:Int)≤4398046511104∧Nds w w.heap.size A nd∧WfN nd∧Ris w w.heap.size B ac∧WfI ac∧Btb w w.heap.size C sy∧WfS sy:=by
 obtain⟨v0,v1,v2,v3,v4,v5,v6,y0,y1,y2,y3,y4,y5,y6,n,rfl,rfl,g0,g1,g2,g3,g4,g5,g6⟩:=open_agg7d Tryz.underlying26 (by kernel_rfl) (by kernel_rfl) hv h
 have hw: ∀(j:Nat) (t':TypeId) (y:DataW H),[3,3,3,3,22,23,24][j]? =some t'→[y0.1,y1.1,y2.1,y3.1,y4.1,y5.1,y6.1][j]? =some y→ ∀k∈y.weights Tryz.prog t',k≤reachBytes:=by
  intro j t' y h1 h2 k hk;refine hz k ?_;simp only[DataW.weights,Tryz.underlying26];exact DataW.weights_mem_each (j:=j) h1 h2 k hk
 obtain⟨sh,rfl,i0⟩:=one_int Tryz.underlying3 g0;obtain⟨wi,rfl,i1⟩:=one_int Tryz.underlying3 g1;obtain⟨ra,rfl,i2⟩:=one_int Tryz.underlying3 g2;obtain⟨ta,rfl,i3⟩:=one_int Tryz.underlying3 g3;obtain⟨A,c,nd,rfl,h1,h2,hn,hwn⟩:=open_nodesc Tryz.underlying22 Tryz.underlying144 (by kernel_rfl) rfl rfl (by kernel_rfl) (by kernel_rfl) Tryz.underlying3 Tryz.underlying2 g4;obtain⟨B,d,ac,rfl,h3,h4,ha,hwa⟩:=open_i64c Tryz.underlying23 Tryz.underlying3 (by kernel_rfl) g5;obtain⟨C,f,sy,rfl,h5,h6,hs,hws⟩:=open_fours Tryz.underlying24 Tryz.underlying90 (by kernel_rfl) rfl rfl rfl rfl (by kernel_rfl) (by kernel_rfl) (by kernel_rfl) (by kernel_rfl) Tryz.underlying2 Tryz.underlying2 Tryz.underlying2 Tryz.underlying83 g6;have w4:=slice_weight Tryz.underlying22 g4 (hw 4 _ _ rfl rfl);have w5:=slice_weight Tryz.underlying23 g5 (hw 5 _ _ rfl rfl);have w6:=slice_weight Tryz.underlying24 g6 (hw 6 _ _ rfl rfl);rw[show Tryz.prog.bytesOf 144=16 from by kernel_rfl]at w4;rw[show Tryz.prog.bytesOf 3=8 from by kernel_rfl]at w5;rw[show Tryz.prog.bytesOf 90=32 from by kernel_rfl]at w6;unfold reachBytes at w4 w5 w6;exact⟨sh,wi,ra,ta,A,B,C,c,d,f,nd,ac,sy,rfl,i0,i1,i2,i3,by omega,by omega,by omega,hn,hwn,ha,hwa,hs,hws⟩
end Ocs
end Go.Proofs.YtfbajlcljfjbkaaGreat
