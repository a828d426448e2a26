/- Texts side by side. -/
import Derived.Test.YtfbajlcljfjbkaaGreatUnibb
set_option linter.unusedVariables false
set_option linter.unusedSimpArgs false
set_option maxRecDepth 100000
set_option maxHeartbeats 16000000
namespace Go.Proofs.YtfbajlcljfjbkaaGreat
open Kap Go.ChangeShapes Go.WideShapes Go.ChangeAt Go.RowKit Mem Tre Ref3 Law3 Crd CrdB CrdC Bkp Bks Bcl Stk Bka Bkj
namespace Mdb
open Fix3 Cfg Rr4 Cfr Dlk Apt Bko Bku Bkc Mdc Mdp Mdz Mds Lat
open Rul1 hiding below_step
variable {xs ys:List Value} {base c g n:Nat} {Ab X:Option Addr} {w w':World}
theorem step_appA{P:Program}{ops:Array Oper}{o:Oper}{a:Act}{K:Act→World→Prop}{Q:Exit→Act→World→Prop}{E:Prop}{Bx:Nat}{e:TypeId}{size m nm:Nat}{v:Value}{news:List Value}{ad:Addr}(hown:Hid (w.ownsRow base e size v n xs))(hr:Hid (Rd w Bx (some ad) news))(hnm:nm=n+m)(hgd:o.guard=none)(s x:Operand)(t:TypeId)
  (ho:o.op= .call {callee:= .builtin .append,args:= #[s,x],argTypes:= #[t,t]})
  (i:TypeInfo)(z:Value)(bytes:Nat)(ht:P.underlying t=some (.slice e))(hi:P.info? e=some i)(hz:i.zero=some z)
  (hsize:i.size=size)(hby:i.bytes=bytes)(hzs:z.cells.size=size)(hsz:0<size)
  (hs:a.eval s=v)(hx:a.eval x= .slice (some ad) m c)(hl:news.length=m*size)(h1: ∀u∈news,u.oneCell'=true)
  (h63:n+m≤maxLen)(hbytes:(n+m)*bytes≤140737488355328)(hbase:base≤w.heap.size)
  (h: ∀A' c' w',Hid (w'.ownsRow base e size (.slice A' nm c') nm (xs++news))→Hid (w.grownBy w' v.ownBlock)→Hid ((Value.slice A' nm c').ownBlock=v.ownBlock∨(Value.slice A' nm c').ownBlock=some w.heap.size)→K (a.put o.dst (.slice A' nm c')) w'):
  if Region.wanted o (yielded ops a.tmps)=true then Oper.wp P o a w K Q else E:=by
 subst hnm;have hw:Region.wanted o (yielded ops a.tmps)=true:=by simp[Region.wanted,hgd]
 rw[if_pos hw]
 have hnews: ∀j u,news[j]? =some u→w.cell? (ad.add j)=some u:=by
  intro j u hj;rcases hr.out with h|⟨b,o,h,_,hc⟩
  ·subst h;simp at hj
  ·injection h with h
   subst h;rw[show(⟨b,o,none⟩:Addr).add j=⟨b,o+j,none⟩ by unfold Addr.add;split<;>simp_all];exact hc j u hj
 obtain⟨v',w',hrun,hown',hg,_,hob⟩:=run_append_own_at (P:=P) (w:=w) base t o.type e i z size bytes ht hi hz hsize hby hzs hsz v n xs hown.out ad m c news hl hnews h1 h63 hbytes hbase;obtain⟨A',c',rfl,_⟩:=own_form hown';unfold Oper.wp execOp;simp only[ho,resolve,invoke,builtin,Sem.run_bind,Sem.run_pure,Result.andThen_ok,List.map_toArray,List.map_cons,List.map_nil,hs,hx,hrun];exact h A' c' w' hown' hg hob
theorem Rd_grown{r:Option Nat}(h:Rd w w.heap.size X xs)(hg:w.grownBy w' r)(hf:xs=[]∨ ∀a,X=some a→r≠some a.block):Rd w' w'.heap.size X xs:=by
 rcases hf with hf|hf
 ·exact .inl hf
 ·rcases h with h|⟨b,o,hA,hb,hc⟩
  ·exact .inl h
  ·refine .inr ⟨b,o,hA,by have:=hg.size;omega,fun i v hi=>?_⟩;rw[World.cell?_of_block (a:=⟨b,o+i,none⟩) (hg.block b hb (fun e=>hf _ hA e.symm))];exact hc i v hi
theorem Far_off(h:Far g Ab X ys):ys=[]∨ ∀a,X=some a→(Value.slice Ab n c).ownBlock≠some a.block:=by
 rcases h with h|h
 ·exact .inl h
 ·refine .inr fun a ha e=>?_
  cases hA:Ab with
  |none=>rw[hA]at e;simp[Value.ownBlock]at e
  |some b=>
   rw[hA]at e;simp only[Value.ownBlock,Option.some.injEq]at e;exact(h a ha).2 b hA e.symm
theorem Far_push{A6:Option Addr}{n' c':Nat}(h:Far g Ab X ys)(hr:Rd w w.heap.size X ys)(hob:(Value.slice A6 n' c').ownBlock=(Value.slice Ab n c).ownBlock∨(Value.slice A6 n' c').ownBlock=some w.heap.size):Far g A6 X ys:=by
 rcases h with h|h
 ·exact .inl h
 ·rcases hr with hr|⟨b,o,hA,hb,_⟩
  ·exact .inl hr
  ·refine .inr fun a ha=>⟨(h a ha).1,fun b6 h6 e=>?_⟩
   subst h6;simp only[Value.ownBlock]at hob;rcases hob with ho|ho
   ·cases hAb:Ab with
    |none=>rw[hAb]at ho;simp at ho
    |some b0=>
     rw[hAb]at ho;simp only[Option.some.injEq]at ho;exact(h a ha).2 b0 hAb (by rw[e,ho])
   ·simp only[Option.some.injEq]at ho;rw[hA]at ha;injection ha with ha
    subst ha;have e':b=b6.block:=e;omega
theorem Mm_push{q:Mq}(h:Mm base w g q){x:Bx}(hx:Bm w x.A x.C x.rl x.b)(fx:FarX g q.Ab x){A6:Option Addr}{n6 c6:Nat}(hn:n6=q.nb+1)
  (ho:w'.ownsRow base 75 4 (.slice A6 n6 c6) n6 (bxs q.xs++bxV x))(hg:w.grownBy w' (Value.slice q.Ab q.nb q.cb).ownBlock)(hob:(Value.slice A6 n6 c6).ownBlock=(Value.slice q.Ab q.nb q.cb).ownBlock∨(Value.slice A6 n6 c6).ownBlock=some w.heap.size):
  Mm base (w'.setCell ⟨g,7,none⟩ (.slice A6 n6 c6)) g {q with Ab:=A6,nb:=n6,cb:=c6,xs:=q.xs++[x]}:=by
 have k1:=blk_own_grown h.blk h.row (by decide) hg;have s:=fun {X:Option Addr} {ys:List Value} (hy:Rd w w.heap.size X ys) (hf:Far g q.Ab X ys)=>Rd_setg (Rd_grown hy hg (Far_off hf)) (Far_push hf hy hob) 7 (.slice A6 n6 c6)
 have sb: ∀(y:Bx),Bm w y.A y.C y.rl y.b→FarX g q.Ab y→Bm (w'.setCell (α g 7) (.slice A6 n6 c6)) y.A y.C y.rl y.b∧FarX g A6 y:=fun y hy hf=>
  ⟨⟨s hy.r hf.1,hy.e,fun i hi=>s (hy.n i hi) (hf.2.2 i hi),s hy.o hf.2.1⟩,⟨Far_push hf.1 hy.r hob,Far_push hf.2.1 hy.o hob,fun j hj=>Far_push (hf.2.2 j hj) (hy.n j hj) hob⟩⟩
 have all: ∀i,i<(q.xs++[x]).length→Bm (w'.setCell (α g 7) (.slice A6 n6 c6)) (gX (q.xs++[x]) i).A (gX (q.xs++[x]) i).C (gX (q.xs++[x]) i).rl (gX (q.xs++[x]) i).b∧FarX g A6 (gX (q.xs++[x]) i):=by
  intro i hi;have hi':i<q.xs.length+1:=by simpa using hi
  rw[gX_snoc _ _ _ hi'];by_cases e:i=q.xs.length
  ·rw[if_pos e];exact sb x hx fx
  ·rw[if_neg e];exact sb _ (h.bm i (by omega)) (h.fx i (by omega))
 refine⟨?_,?_,h.gb,h.l1,h.l2,h.l3,?_,h.l5,h.l6,s h.nds h.f1,s h.ris h.f2,s h.smb h.f3,s h.cn h.f4,s h.cr h.f5,fun i hi=>(all i hi).1,Far_push h.f1 h.nds hob,Far_push h.f2 h.ris hob,Far_push h.f3 h.smb hob,Far_push h.f4 h.cn hob,Far_push h.f5 h.cr hob,fun i hi=>(all i hi).2⟩
 ·exact blk_st k1 7 _
 ·show World.ownsRow _ _ _ _ _ _ (bxs (q.xs++[x]));rw[bxs_snoc];exact own_st ho k1 (by decide) 7 _
 ·show n6=(q.xs++[x]).length;rw[hn,h.l4];simp
end Mdb
namespace Mdf
open Abv
def MadeBg(n:Nat)(sh:Int)(w:World)(e:Ending)(w':World):Prop:=
 e= .returned (bkA (some ⟨w.heap.size+1+1,0,none⟩) none n 0 (beginF n sh))∧Bm w' (some ⟨w.heap.size+1+1,0,none⟩) none (List.replicate n rc0) (beginF n sh)∧Below w.heap.size w w'
theorem bbegin_fresh(sk wi ra ta:Int)(A1 A2 A3:Option Addr)(n1 n2 n3 c1 c2 c3:Nat)(sh:Int)(w:World)(hmax:n2≤1000):
  Calls Tryz.prog 26 #[.agg #[.int .i64 sk,.int .i64 wi,.int .i64 ra,.int .i64 ta,.slice A1 n1 c1,.slice A2 n2 c2,.slice A3 n3 c3],.int .i64 sh] w (MadeBg n2 sh w):=by
 obtain⟨i0,hi,hz0,hz1,hz2⟩:=info_parts infoR;have hmk:=fun(W:World)=>run_make (P:=Tryz.prog) W 72 154 i0 _ Tryz.underlying72 hi hz0 .i64 .i64 (n2:Int) (n2:Int) (by omega) (by omega) (by rw[hz2];omega) (by omega)
 simp only[Int.toNat_natCast,hz1]at hmk;have hmk2: ∀W:World,(Instr.makeSlice 72 (ι (n2:Int)) (ι (n2:Int))).run Tryz.prog W= .ok (.slice (some (α W.heap.size 0)) n2 n2) (W.alloc (.cells (madeCells zRow (n2*3)) 154)):=fun W=>by first|exact hmk W|simpa[zRow] using hmk W
 have b0:Hid (Below w.heap.size w (((w.alloc (.cells (vC sk wi ra ta A1 n1 c1 A2 n2 c2 A3 n3 c3) 40)).alloc (.cells (vB sh 0 (some (α (w.heap.size+1+1) 0)) n2 n2 none 0 0) 75)).alloc (.cells (madeCells zRow (n2*3)) 154))):=((ψ.alloc τ _).alloc (by simp) _).alloc (by simp<;>omega) _;have K0:Hid (Blk (((w.alloc (.cells (vC sk wi ra ta A1 n1 c1 A2 n2 c2 A3 n3 c3) 40)).alloc (.cells (vB sh 0 (some (α (w.heap.size+1+1) 0)) n2 n2 none 0 0) 75)).alloc (.cells (madeCells zRow (n2*3)) 154)) (w.heap.size+1) 75 (vB sh 0 (some (α (w.heap.size+1+1) 0)) n2 n2 none 0 0)):=Blk.alloc (blk_hd (by simp)) _;have Z0:=κ (δ ((w.alloc (.cells (vC sk wi ra ta A1 n1 c1 A2 n2 c2 A3 n3 c3) 40)).alloc (.cells (vB sh 0 (some (α (w.heap.size+1+1) 0)) n2 n2 none 0 0) 75)) 154 (madeCells zRow (n2*3)) (w.heap.size+1+1));clear hmk
 go_enter Tryz.func26,Tryz.ntmps26
 go_wp2_with fail
 obtain⟨k0,k1,k2,k3⟩:=q4_of K0.out
 have hfin:MadeBg n2 sh w (.returned (.agg (vB sh 0 (some (α (w.heap.size+1+1) 0)) n2 n2 none 0 0))) (((w.alloc (.cells (vC sk wi ra ta A1 n1 c1 A2 n2 c2 A3 n3 c3) 40)).alloc (.cells (vB sh 0 (some (α (w.heap.size+1+1) 0)) n2 n2 none 0 0) 75)).alloc (.cells (madeCells zRow (n2*3)) 154)):=by
  refine⟨?_,⟨Z0.out.rd' (made_rows n2),?_,?_,.inl rfl⟩,b0.out⟩
  ·simp[bkA,beginF]
  ·simp[beginF,rc0]
  ·intro i hi
   have e:gC (List.replicate n2 rc0) i=rc0:=by
    rw[List.length_replicate]at hi;simp[gC,hi]
   rw[e];exact .inl rfl
 exact bodyPost_ret (v:= .agg #[ι sh,ι 0,.slice (some (α (w.heap.size+1+1) 0)) n2 n2,.slice none 0 0]) (by simp[results,Tryz.results26,go_sem,k0,k1,k2,k3]) rfl hfin
theorem Fb_begin(base n:Nat)(w:World)(h:base≤w.heap.size):Fb base (some ⟨w.heap.size+1+1,0,none⟩) none (List.replicate n rc0):=by
 refine⟨fun a e=>?_,fun a e=>(by cases e),fun i hi a e=>?_⟩
 ·injection e with e
  rw[←e];show base≤w.heap.size+1+1;omega
 ·have e2:gC (List.replicate n rc0) i=rc0:=by
   rw[List.length_replicate]at hi;simp[gC,hi]
  rw[e2]at e;cases e
end Mdf
end Go.Proofs.YtfbajlcljfjbkaaGreat
