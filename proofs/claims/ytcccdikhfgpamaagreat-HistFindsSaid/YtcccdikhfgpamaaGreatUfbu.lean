/- Texts side by side. -/
import Derived.Test.YtcccdikhfgpamaaGreatUfbq
import Derived.Test.YtcccdikhfgpamaaGreatUfbt
set_option linter.unusedVariables false
set_option linter.unusedSimpArgs false
set_option maxRecDepth 100000
set_option maxHeartbeats 16000000
namespace Go.Proofs.YtcccdikhfgpamaaGreat
open Kap Go.ChangeShapes Go.WideShapes Go.ChangeAt Go.RowKit Mem Tre Ref3 Law3
namespace Mdb
open Fix3 Cfg Crd CrdB CrdC Rr4 Cfr Bkp Bks Bcl Dlk Stk Apt Bko Bku Bka Bkc Bkj Mdc Mdp Mdz Mds Lat
open Rul1 hiding below_step
variable {xs ys:List Value} {base c g n:Nat} {Ab X:Option Addr} {w w':World}
theorem step_appA{P:Program}{ops:Array Oper}{o:Oper}{a:Act}{K:Act→World→Prop}{Q:Exit→Act→World→Prop}{E:Prop}{Bx:Nat}{e:TypeId}{size m nm:Nat}{v:Value}{news:List Value}{ad:Addr}(hown:Hid (w.ownsRow base e size v n xs))(hr:Hid (Rd w Bx (some ad) news))(hnm:nm=n+m)(hgd:o.guard=none)(s x:Operand)(t:TypeId)
  (ho:o.op= .call {callee:= .builtin .append,args:= #[s,x],argTypes:= #[t,t]})
  (i:TypeInfo)(z:Value)(bytes:Nat)(ht:P.underlying t=some (.slice e))(hi:P.info? e=some i)(hz:i.zero=some z)
  (hsize:i.size=size)(hby:i.bytes=bytes)(hzs:z.cells.size=size)(hsz:0<size)
  (hs:a.eval s=v)(hx:a.eval x= .slice (some ad) m c)(hl:news.length=m*size)(h1: ∀u∈news,u.oneCell'=true)
  (h63:n+m≤maxLen)(hbytes:(n+m)*bytes≤140737488355328)(hbase:base≤w.heap.size)
  (h: ∀A' c' w',Hid (w'.ownsRow base e size (.slice A' nm c') nm (xs++news))→Hid (w.grownBy w' v.ownBlock)→Hid ((Value.slice A' nm c').ownBlock=v.ownBlock∨(Value.slice A' nm c').ownBlock=some w.heap.size)→K (a.put o.dst (.slice A' nm c')) w'):
  if Region.wanted o (yielded ops a.tmps)=true then Oper.wp P o a w K Q else E:=by
 subst hnm;have q:Region.wanted o (yielded ops a.tmps)=true:=by simp[Region.wanted,hgd]
 rw[if_pos q]
 have f: ∀j u,news[j]? =some u→w.cell? (ad.add j)=some u:=by
  intro j u p;rcases hr.o with h|⟨b,o,h,_,hc⟩
  ·subst h;simp at p
  ·injection h with h
   subst h;rw[show(⟨b,o,none⟩:Addr).add j=⟨b,o+j,none⟩ by unfold Addr.add;split<;>simp_all];exact hc j u p
 obtain⟨y,w',k,d,r,_,l⟩:=run_append_own_at (P:=P) (w:=w) base t o.type e i z size bytes ht hi hz hsize hby hzs hsz v n xs hown.o ad m c news hl f h1 h63 hbytes hbase;obtain⟨A',c',rfl,_⟩:=own_form d;unfold Oper.wp execOp;simp only[ho,resolve,invoke,builtin,Sem.run_bind,Sem.run_pure,Result.andThen_ok,List.map_toArray,List.map_cons,List.map_nil,hs,hx,k];exact h A' c' w' d r l
theorem Rd_grown{r:Option Nat}(h:Rd w w.heap.size X xs)(hg:w.grownBy w' r)(hf:xs=[]∨ ∀a,X=some a→r≠some a.block):Rd w' w'.heap.size X xs:=by
 rcases hf with hf|hf
 ·exact .inl hf
 ·rcases h with h|⟨b,o,hA,hb,hc⟩
  ·exact .inl h
  ·refine .inr ⟨b,o,hA,by have:=hg.size;omega,fun i v d=>?_⟩;rw[World.cell?_of_block (a:=⟨b,o+i,none⟩) (hg.block b hb (fun e=>hf _ hA e.symm))];exact hc i v d
theorem Far_off(h:Far g Ab X ys):ys=[]∨ ∀a,X=some a→(Value.slice Ab n c).ownBlock≠some a.block:=by
 rcases h with h|h
 ·exact .inl h
 ·refine .inr fun a d e=>?_
  cases hA:Ab with
  |none=>rw[hA]at e;simp[Value.ownBlock]at e
  |some b=>
   rw[hA]at e;simp only[Value.ownBlock,Option.some.injEq]at e;exact(h a d).2 b hA e.symm
theorem Far_push{A6:Option Addr}{n' c':Nat}(h:Far g Ab X ys)(hr:Rd w w.heap.size X ys)(hob:(Value.slice A6 n' c').ownBlock=(Value.slice Ab n c).ownBlock∨(Value.slice A6 n' c').ownBlock=some w.heap.size):Far g A6 X ys:=by
 rcases h with h|h
 ·exact .inl h
 ·rcases hr with hr|⟨b,o,hA,hb,_⟩
  ·exact .inl hr
  ·refine .inr fun a d=>⟨(h a d).1,fun f i e=>?_⟩
   subst i;simp only[Value.ownBlock]at hob;rcases hob with ho|ho
   ·cases hAb:Ab with
    |none=>rw[hAb]at ho;simp at ho
    |some b0=>
     rw[hAb]at ho;simp only[Option.some.injEq]at ho;exact(h a d).2 b0 hAb (by rw[e,ho])
   ·simp only[Option.some.injEq]at ho;rw[hA]at d;injection d with d
    subst d;have j:b=f.block:=e;omega
theorem Mm_push{q:Mq}(h:Mm base w g q){x:Bx}(hx:Bm w x.A x.C x.rl x.b)(fx:FarX g q.Ab x){A6:Option Addr}{n6 c6:Nat}(hn:n6=q.nb+1)
  (ho:w'.ownsRow base 181 4 (.slice A6 n6 c6) n6 (bxs q.xs++bxV x))(hg:w.grownBy w' (Value.slice q.Ab q.nb q.cb).ownBlock)(hob:(Value.slice A6 n6 c6).ownBlock=(Value.slice q.Ab q.nb q.cb).ownBlock∨(Value.slice A6 n6 c6).ownBlock=some w.heap.size):
  Mm base (w'.setCell ⟨g,7,none⟩ (.slice A6 n6 c6)) g {q with Ab:=A6,nb:=n6,cb:=c6,xs:=q.xs++[x]}:=by
 have m:=blk_own_grown h.blk h.row (by decide) hg;have s:=fun {X:Option Addr} {ys:List Value} (a:Rd w w.heap.size X ys) (d:Far g q.Ab X ys)=>Rd_setg (Rd_grown a hg (Far_off d)) (Far_push d a hob) 7 (.slice A6 n6 c6)
 have p: ∀(y:Bx),Bm w y.A y.C y.rl y.b→FarX g q.Ab y→Bm (w'.setCell (α g 7) (.slice A6 n6 c6)) y.A y.C y.rl y.b∧FarX g A6 y:=fun y a d=>
  ⟨⟨s a.r d.1,a.e,fun i f=>s (a.n i f) (d.2.2 i f),s a.o d.2.1⟩,⟨Far_push d.1 a.r hob,Far_push d.2.1 a.o hob,fun j t=>Far_push (d.2.2 j t) (a.n j t) hob⟩⟩
 have k: ∀i,i<(q.xs++[x]).length→Bm (w'.setCell (α g 7) (.slice A6 n6 c6)) (gX (q.xs++[x]) i).A (gX (q.xs++[x]) i).C (gX (q.xs++[x]) i).rl (gX (q.xs++[x]) i).b∧FarX g A6 (gX (q.xs++[x]) i):=by
  intro i f;have l:i<q.xs.length+1:=by simpa using f
  rw[gX_snoc _ _ _ l];by_cases e:i=q.xs.length
  ·rw[if_pos e];exact p x hx fx
  ·rw[if_neg e];exact p _ (h.bm i (by omega)) (h.fx i (by omega))
 refine⟨?_,?_,h.gb,h.l1,h.l2,h.l3,?_,h.l5,h.l6,s h.nds h.f1,s h.ris h.f2,s h.smb h.f3,s h.cn h.f4,s h.cr h.f5,fun i f=>(k i f).1,Far_push h.f1 h.nds hob,Far_push h.f2 h.ris hob,Far_push h.f3 h.smb hob,Far_push h.f4 h.cn hob,Far_push h.f5 h.cr hob,fun i f=>(k i f).2⟩
 ·exact blk_st m 7 _
 ·show World.ownsRow _ _ _ _ _ _ (bxs (q.xs++[x]));rw[bxs_snoc];exact own_st ho m (by decide) 7 _
 ·show n6=(q.xs++[x]).length;rw[hn,h.l4];simp
end Mdb
namespace Mdf
open Abv Crd CrdB CrdC Bkp Bks Bcl Stk Bkj Bka
def MadeBg(n:Nat)(sh:Int)(w:World)(e:Ending)(w':World):Prop:=
 e= .returned (bkA (some ⟨w.heap.size+1+1,0,none⟩) none n 0 (beginF n sh))∧Bm w' (some ⟨w.heap.size+1+1,0,none⟩) none (List.replicate n rc0) (beginF n sh)∧Below w.heap.size w w'
theorem bbegin_fresh(sk wi ra ta:Int)(A1 A2 A3:Option Addr)(n1 n2 n3 c1 c2 c3:Nat)(sh:Int)(w:World)(hmax:n2≤1000):
  Calls Tryz.prog 82 #[.agg #[.int .i64 sk,.int .i64 wi,.int .i64 ra,.int .i64 ta,.slice A1 n1 c1,.slice A2 n2 c2,.slice A3 n3 c3],.int .i64 sh] w (MadeBg n2 sh w):=by
 obtain⟨j,c,d,f,g⟩:=info_parts infoR;have a:=fun(W:World)=>run_make (P:=Tryz.prog) W 178 243 j _ Tryz.underlying178 c d .i64 .i64 (n2:Int) (n2:Int) (by omega) (by omega) (by rw[g];omega) (by omega)
 simp only[Int.toNat_natCast,f]at a;have h: ∀W:World,(Instr.makeSlice 178 (ι (n2:Int)) (ι (n2:Int))).run Tryz.prog W= .ok (.slice (some (α W.heap.size 0)) n2 n2) (W.alloc (.cells (madeCells zRow (n2*3)) 243)):=fun W=>by first|exact a W|simpa[zRow] using a W
 have k:Hid (Below w.heap.size w (((w.alloc (.cells (vC sk wi ra ta A1 n1 c1 A2 n2 c2 A3 n3 c3) 43)).alloc (.cells (vB sh 0 (some (α (w.heap.size+1+1) 0)) n2 n2 none 0 0) 181)).alloc (.cells (madeCells zRow (n2*3)) 243))):=((ψ.alloc τ _).alloc (by simp) _).alloc (by simp<;>omega) _;have l:Hid (Blk (((w.alloc (.cells (vC sk wi ra ta A1 n1 c1 A2 n2 c2 A3 n3 c3) 43)).alloc (.cells (vB sh 0 (some (α (w.heap.size+1+1) 0)) n2 n2 none 0 0) 181)).alloc (.cells (madeCells zRow (n2*3)) 243)) (w.heap.size+1) 181 (vB sh 0 (some (α (w.heap.size+1+1) 0)) n2 n2 none 0 0)):=Blk.alloc (blk_hd (by simp)) _;have m:=κ (δ ((w.alloc (.cells (vC sk wi ra ta A1 n1 c1 A2 n2 c2 A3 n3 c3) 43)).alloc (.cells (vB sh 0 (some (α (w.heap.size+1+1) 0)) n2 n2 none 0 0) 181)) 243 (madeCells zRow (n2*3)) (w.heap.size+1+1));clear a
 go_enter Tryz.func82,Tryz.ntmps82
 go_wp2_with fail
 obtain⟨n,o,p,q⟩:=q4_of l.o
 have b:MadeBg n2 sh w (.returned (.agg (vB sh 0 (some (α (w.heap.size+1+1) 0)) n2 n2 none 0 0))) (((w.alloc (.cells (vC sk wi ra ta A1 n1 c1 A2 n2 c2 A3 n3 c3) 43)).alloc (.cells (vB sh 0 (some (α (w.heap.size+1+1) 0)) n2 n2 none 0 0) 181)).alloc (.cells (madeCells zRow (n2*3)) 243)):=by
  refine⟨?_,⟨m.o.rd' (made_rows n2),?_,?_,.inl rfl⟩,k.o⟩
  ·simp[bkA,beginF]
  ·simp[beginF,rc0]
  ·intro i c
   have e:gC (List.replicate n2 rc0) i=rc0:=by
    rw[List.length_replicate]at c;simp[gC,c]
   rw[e];exact .inl rfl
 exact bodyPost_ret (v:= .agg #[ι sh,ι 0,.slice (some (α (w.heap.size+1+1) 0)) n2 n2,.slice none 0 0]) (by simp[results,Tryz.results82,go_sem,n,o,p,q]) rfl b
theorem Fb_begin(base n:Nat)(w:World)(h:base≤w.heap.size):Fb base (some ⟨w.heap.size+1+1,0,none⟩) none (List.replicate n rc0):=by
 refine⟨fun a e=>?_,fun a e=>(by cases e),fun i b a e=>?_⟩
 ·injection e with e
  rw[←e];show base≤w.heap.size+1+1;omega
 ·have c:gC (List.replicate n rc0) i=rc0:=by
   rw[List.length_replicate]at b;simp[gC,b]
  rw[c]at e;cases e
end Mdf
namespace Hrr
open Go.Lib Wpl Hpa Hmp Hti Hws Hri
theorem ldr21{w:World}{b o:Nat}{x:He}(h:H21 w b o x):(Instr.loadAt 68 (.pointer (some ⟨b,o,none⟩))).run Tryz.prog w= .ok (.agg (hA x)) w:=by
 have e:=h.load;simp only[Instr.loadAt,Instr.sureAddr,Sem.run_bind,Sem.run_pure,Result.andThen,loadVar,loadCells,Tryz.isAgg68,Tryz.sizeOf68,if_true,e]
theorem str21(w:World)(x:He):(Instr.storeAt 68 (.pointer (some ⟨w.heap.size,0,none⟩)) (.agg (hA x))).run Tryz.prog (w.alloc (.cells (hA he0) 68))= .ok () (w.alloc (.cells (hA x) 68)):=
 run_storeAt_new w 68 (hA he0) (hA x) (by kernel_rfl) rfl (by simp[Value.oneCell'])
end Hrr
namespace Hod
open Lax Go.Lib Wpl Hpa Hws Lat
def nI(L:List Nat):List Int:=L.map fun k:Nat=>(k:Int)
theorem nI_len(L:List Nat):(nI L).length=L.length:=by simp[nI]
theorem ins_at{f:Nat→Int}{i:Nat}: ∀{pre suf:List Nat},(∀a∈pre,f a≤f i)→(∀a∈suf,f i<f a)→insO f i (pre++suf)=pre++i :: suf
 |[],[],_,_=>rfl
 |[],b :: t,_,h=>by show insO f i (b :: t)=_;unfold insO;rw[if_pos (h b (List.mem_cons_self ..))];rfl
 |a :: p,suf,h1,h2=>by
  show insO f i (a :: (p++suf))=_
  unfold insO
  rw[if_neg (by have:=h1 a (List.mem_cons_self ..);omega),ins_at (fun x hx=>h1 x (List.mem_cons_of_mem _ hx)) h2]
  rfl
theorem ordN_lt{f:Nat→Int}{n a:Nat}(h:a∈ordN f n):a<n:=by
 have:=(ordN_perm f n).mem_iff.1 h;simp only[List.mem_filter,List.mem_range]at this;exact this.1
theorem nI_at(p s:List Nat)(x:Nat):gI (nI (p++x :: s)) p.length=(x:Int):=by simp[gI,nI]
theorem nI_at1(p s:List Nat)(a x:Nat):gI (nI (p++a :: x :: s)) (p.length+1)=(x:Int):=by
 have:=nI_at (p++[a]) s x;simpa using this
theorem nI_swap(p s:List Nat)(a x:Nat):((nI (p++a :: x :: s)).set p.length (x:Int)).set (p.length+1) (a:Int)=nI (p++x :: a :: s):=by
 simp[nI,List.set_append]
theorem nil_or_snoc(l:List Nat):l=[]∨ ∃p a,l=p++[a]:=by
 rcases List.eq_nil_or_concat l with h|⟨p,a,h⟩
 ·exact .inl h
 ·exact .inr ⟨p,a,by rw[h,List.concat_eq_append]⟩
def MadeOr(L:List Nat)(w:World)(e:Ending)(w':World):Prop:= ∃A c,e= .returned (.slice A L.length c)∧Ris w' w'.heap.size A (nI L)∧Below w.heap.size w w'∧ ∀a,A=some a→w.heap.size≤a.block
theorem own_new{w:World}{base s n c:Nat}{e:TypeId}{A:Option Addr}{xs:List Value}(h:w.ownsRow base e s (.slice A n c) n xs): ∀a,A=some a→base≤a.block:=by
 intro a d;rcases h.2 with⟨b,_⟩|⟨g,f,i,b,j,_⟩
 ·injection b with b;rw[d]at b;cases b
 ·injection b with b;rw[d]at b;injection b with b;rw[b];exact j
theorem order_any(E:List He)(A:Option Addr)(c:Nat)(w:World)(hl:Hid (Rd w w.heap.size A (hrow E)))(hm:E.length≤1000):Calls Tryz.prog 31 #[.slice A E.length c] w (MadeOr (ordF E) w):=by
 obtain⟨i0,hi,av,aw,ax⟩:=info_parts int_info
 go_enter Tryz.func31,Tryz.ntmps31
 go_wp2_with fail
 go_loopg [3,4] E.length (fun g s3 s4 w'=> ∃(i j:Nat) (A':Option Addr) (c':Nat),i+g=E.length∧s4= ι i∧s3= .slice A' j c'∧Hid (j=(ordN (fk E) i).length∧j≤i)∧Hid (World.ownsRow w' w.heap.size 3 1 (.slice A' j c') j (ints (nI (ordN (fk E) i))))∧Hid (Below w.heap.size w w'))
 case atStart=>exact⟨0,0,none,0,by omega,rfl,rfl,κ ⟨rfl,τ⟩,κ (World.ownsRow_nil _ _ _ _),κ ψ⟩
 case round=>
  obtain⟨i,j,A',c',aL,rfl,rfl,m,O,U⟩:=hrel
  rename World=>wr
  by_cases hlt:i<E.length
  ·obtain⟨g,rfl⟩: ∃g,gk=g+1:=⟨gk-1,by omega⟩;have ay:((i:Nat):Int)<((E.length:Nat):Int):=by omega
   obtain⟨b,o,rfl,hb,hc⟩:=hes_at hl.o (by omega);have HC:Hid (∀W,Below w.heap.size w W→ ∀k,k<E.length→W.cell? ⟨b,o+k*21+2,none⟩=some (.int .i64 (fk E k))):=κ (fun W az k hk=>(az.cell (p:=⟨b,o+k*21+2,none⟩) hb).trans (hc k hk).2.2.1);have ci:=HC.o wr U.o i hlt;have J:Hid (i<1000):=κ (by omega);have aA:Hid (i<E.length):=κ hlt;clear hc hb;by_cases h0:fk E i=0
   ·have hS:Hid (ordN (fk E) (i+1)=ordN (fk E) i):=κ (by show(if fk E i=0 then _ else _)=_;rw[if_pos h0]);rw[h0]at ci;clear h0
    go_wp2_with fail
    go_roundg g
    case measure=>omega
    case rel=>exact⟨i+1,j,A',c',by omega,by go_num,rfl,κ ⟨by rw[hS.o];exact m.o.1,by have:=m.o.2;omega⟩,κ (by rw[hS.o];exact O.o),U⟩
   ·have hS:Hid (ordN (fk E) (i+1)=insO (fk E) i (ordN (fk E) i)):=κ (by show(if fk E i=0 then _ else _)=_;rw[if_neg h0]);have HL:Hid (∀a∈ordN (fk E) i,a<E.length):=κ (fun a ha=>by have:=ordN_lt ha;omega);have HP:Hid ((ordN (fk E) i).Pairwise (fun a b=>fk E a≤fk E b)):=κ (ordN_sorted _ _);generalize ordN (fk E) i=L at m O hS HL HP;have ag:(fk E i==0)=false:=beq_eq_false_iff_ne.2 h0;have H0:=κ h0;have UB:=U.o;obtain⟨n1,ah⟩: ∃n,n=j+1:=⟨_,rfl⟩;have aM:=κ ah;clear ah;generalize ai:fk E i=fi at ci ag h0;have ad:=κ ai;clear ai;have aj:wrap64 (j:Int)=(j:Int):=by have:=m.o.2;have:=J.o;unfold wrap64;omega
    go_upto_region 8 with(at_builtin;refine wpList_app1 O UB rfl _ _ _ rfl i0 (.int .i64 0) 8 Tryz.underlying23 hi av aw ax rfl (by decide) rfl rfl rfl [.int .i64 (i:Int)] rfl rfl (by simp[Value.oneCell']) (by have:=m.o.2;have:=J.o;unfold maxLen;omega) (by have:=m.o.2;have:=J.o;omega) τ UB.size UB.size ?_;intro A1 c1 w1 K P aB)
    have O1:Hid (World.ownsRow w1 w.heap.size 3 1 (.slice A1 (j+1) c1) (j+1) (ints (nI (L++[i])))):=κ (by simpa[nI,ints] using K.o);have U1:=κ P;have Q:Hid (j=L.length):=κ m.o.1;clear K P aB O ci ag h0 UB U
    go_loopg [5] j (fun g s5 w'=> ∃(r d:List Nat),g=r.length∧s5= ι ((r.length:Nat):Int)∧Hid (L=r++d∧ ∀a∈d,fi<fk E a)∧Hid (World.ownsRow w' w.heap.size 3 1 (.slice A1 (j+1) c1) (j+1) (ints (nI (r++i :: d))))∧Hid (Below w.heap.size w w'))
    case atStart=>exact⟨L,[],Q.o,by rw[aj,Q.o],κ ⟨by simp,fun a h=>by cases h⟩,O1,U1⟩
    case round=>
     clear O1 U1 aj;obtain⟨r,d,X,rfl,C,O,U⟩:=hrel
     rename World=>v
     have R:j=r.length+d.length:=by rw[Q.o,C.o.1,List.length_append]
     obtain⟨l,rfl,ak,-,-,s,F⟩:=Own.own_at O.o (by rw[nI_len];simp;omega);rw[nI_len]at s F;have Y:(r++i :: d).length=j+1:=by simp;omega
     rw[Y]at s F;have y:=κ s;have Z:=κ F;clear s F;have S:(∀a∈r,fk E a≤fi)→Hid (ordN (fk E) (i+1)=r++i :: d):=fun h=>κ (by rw[hS.o,C.o.1];exact ins_at (f:=fk E) (by rw[ad.o];exact h) (by rw[ad.o];exact C.o.2))
     rcases nil_or_snoc r with rfl|⟨p,a,rfl⟩
     ·have G:=S (fun a h=>by cases h);have aC: ¬((0:Int)<0):=by omega
      have aD:=κ Y;clear S y Z R Y X
      go_wp2_with fail
      go_quiet (fail)
      rename Nat=>H
      have U2:Hid (Below w.heap.size w (v.drewN H)):=κ (Below.drewN' U.o _);have O2:Hid (World.ownsRow (v.drewN H) w.heap.size 3 1 (.slice (some (α l 0)) (j+1) c1) (j+1) (ints (nI (i :: d)))):=O;clear O U
      go_wp2_with fail
      go_roundg g
      case measure=>omega
      case rel=>exact⟨i+1,j+1,some ⟨l,0,none⟩,c1,by omega,by go_num,rfl,κ ⟨by rw[G.o];exact aD.o.symm,by have:=m.o.2;omega⟩,κ (by rw[G.o];exact O2.o),U2⟩
     ·obtain⟨g9,rfl⟩: ∃g9,gk=g9+1:=⟨p.length,by rw[X];simp⟩;have aE:Hid (g9=p.length):=κ (by simpa using X);clear X;obtain⟨q,z⟩: ∃q,q=p.length:=⟨_,rfl⟩;obtain⟨k,hk⟩: ∃k,k=(p++[a]).length:=⟨_,rfl⟩;have aa:k=q+1:=by rw[hk,z];simp
      have ae:(p++[a])++i :: d=p++a :: i :: d:=by simp
      rw[ae]at O y Z;have V:j=q+1+d.length:=by rw[R,List.length_append,z];rfl
      have al:v.cell? (α l q)=some (ι (a:Int)):=by
       have:=(y.o q (by omega)).1;rw[z,nI_at]at this;rw[z];exact this
      have am:v.cell? (α l k)=some (ι (i:Int)):=by
       have:=(y.o k (by omega)).1;rw[aa,z,nI_at1]at this;rw[aa,z];exact this
      have hy:Hid (v.frozen? (α l q)=false∧v.frozen? (α l k)=false):=κ ⟨(y.o q (by omega)).2,(y.o k (by omega)).2⟩;have an:a<E.length:=HL.o a (by rw[C.o.1];simp);have ao:=HC.o v U.o a an;have ap:=HC.o v U.o i aA.o;rw[ad.o]at ap;have aC:(0:Int)<((k:Nat):Int):=by omega
      have aN:0<k:=by omega
      have b1:((q:Nat):Int)<((j+1:Nat):Int):=by omega
      have b2:((k:Nat):Int)<((j+1:Nat):Int):=by omega
      have aO:q<j+1:=by omega
      have aP:k<j+1:=by omega
      have aQ:((q:Nat):Int)<(j:Int)+1:=by omega
      have aR:((k:Nat):Int)<(j:Int)+1:=by omega
      have b3:((a:Nat):Int)<((E.length:Nat):Int):=by omega
      have aS:IntKind.i64.wrap (((k:Nat):Int)-1)=((q:Nat):Int):=by rw[IntKind.wrap_i64];have:=J.o;have:=m.o.2;omega
      have aT:wrap64 (((k:Nat):Int)-1)=((q:Nat):Int):=by unfold wrap64;have:=J.o;have:=m.o.2;omega
      have HK:=κ aa;have I:=κ z;have aF:=κ ae;rw[←hk];have aU:=κ hk;have aG:=κ V;clear aa ae hk R Y an V z;generalize aq:fk E a=fa at ao;have af:=κ aq;clear aq;by_cases hgt:fi<fa
      ·clear S y Z
       go_wp2_with fail
       go_quiet (fail)
       rename Nat=>H
       have U2:Hid (Below w.heap.size w (v.drewN H)):=κ (Below.drewN' U.o _);have O2:Hid (World.ownsRow (v.drewN H) w.heap.size 3 1 (.slice (some (α l 0)) (j+1) c1) (j+1) (ints (nI (p++a :: i :: d)))):=O;have d1:(v.drewN H).cell? (α l q)=some (ι (a:Int)):=al;have d2:(v.drewN H).cell? (α l k)=some (ι (i:Int)):=am;have ab:Hid ((v.drewN H).frozen? (α l q)=false∧(v.drewN H).frozen? (α l k)=false):=hy;clear O U al am ao ap hy;generalize v.drewN H=wy at U2 O2 d1 d2 ab ⊢
       go_upto_region 10 with fail
       refine wp_region_noPanic ?_;let ar:World→Prop:=fun w'=>w'.cell? (α l q)=some (ι (a:Int))∧w'.cell? (α l k)=some (ι (i:Int))
       refine wp_region_L (T:=ar) (st:=[15,17]) (by kernel_rfl) ?_;have U3:Hid (Below w.heap.size w wy.drew):=κ U2.o.drew;have O3:=own_drew O2;have y3:wy.drew.frozen? (α l q)=false:=ab.o.1;have y4:Hid (wy.drew.frozen? (α l k)=false):=κ ab.o.2;have t:Hid (ar (wy.drew)):=κ ⟨d1,d2⟩;clear d1 d2 ab U2 O2;generalize wy.drew=wD at U3 O3 y3 y4 t ⊢;have d1:=t.o.1;refine jA 0 t.o ?_;refine jA 1 t.o ?_;refine jA 2 t.o ?_;refine jA 3 t.o ?_;refine jA 4 t.o ?_;refine jA 5 t.o ?_;refine jA 6 t.o ?_;refine jA 7 t.o ?_;refine jB 8 t.o ?_;refine jA 9 t.o ?_;refine jA 10 t.o ?_;refine jA 11 t.o ?_;refine jA 12 t.o ?_;refine jB 13 t.o ?_;refine jA 14 t.o ?_;refine jV 15 fun K' hK=>?_
       go_simp;refine hK.out _ _ ?_;clear hK K';refine jP ?_;have e2:(wD.setCell ⟨l,q,none⟩ (.int .i64 (i:Int))).cell? ⟨l,k,none⟩=some (.int .i64 (i:Int)):=ω _ _ t.o.2 (by intro e;injection e with e1 e2;have:=HK.o;omega);have f2:(wD.setCell ⟨l,q,none⟩ (.int .i64 (i:Int))).frozen? ⟨l,k,none⟩=false:=φ _ _ y4.o;refine jZ 16 ?_;refine jV 17 fun K' hK=>?_
       go_simp;refine hK.out _ _ ?_;clear hK K';refine jP ?_;refine Δ ?_;have U4:Hid (Below w.heap.size w ((wD.setCell ⟨l,q,none⟩ (.int .i64 (i:Int))).setCell ⟨l,k,none⟩ (.int .i64 (a:Int)))):=κ ((U3.o.setCell (p:=⟨l,q,none⟩) ak _).setCell (p:=⟨l,k,none⟩) ak _)
       have O4:Hid (World.ownsRow ((wD.setCell (α l q) (ι (i:Int))).setCell (α l k) (ι (a:Int))) w.heap.size 3 1 (.slice (some (α l 0)) (j+1) c1) (j+1) (ints (nI (p++i :: a :: d)))):=κ (by
        have ac:(nI (p++a :: i :: d)).length=p.length+(d.length+1+1):=by rw[nI_len];simp
        obtain⟨g2,h2,_,_,_,_,hs⟩:=Own.own_at O3.o (by rw[ac]<;>omega)
        cases h2
        have o5:=hs q (i:Int) (by rw[ac,I.o]<;>omega)
        obtain⟨g3,h3,_,_,_,_,aH⟩:=Own.own_at o5 (by rw[List.length_set,ac]<;>omega)
        cases h3
        have o6:=aH k (a:Int) (by rw[List.length_set,ac,HK.o,I.o]<;>omega)
        rw[HK.o,I.o]at o6
        rw[nI_swap]at o6
        rw[HK.o,I.o]
        exact o6)
       have aI:Hid (L=p++a :: d∧ ∀x∈a :: d,fi<fk E x):=κ (by
        refine⟨by rw[C.o.1];simp,fun x hx=>?_⟩
        rcases List.mem_cons.1 hx with e|h
        ·rw[e,af.o];exact hgt
        ·exact C.o.2 x h)
       clear U3 O3 y3 y4 t d1 e2 f2;generalize (wD.setCell ⟨l,q,none⟩ (.int .i64 (i:Int))).setCell ⟨l,k,none⟩ (.int .i64 (a:Int))=w9 at U4 O4 ⊢
       go_wp2_with fail
       go_roundg g9
       case measure=>omega
       case rel=>exact⟨p,a :: d,aE.o,(by rw[←I.o]),aI,O4,U4⟩
      ·have au: ∀x∈p++[a],fk E x≤fi:=by
        intro x hx;have hp:=HP.o;rw[C.o.1]at hp;have aJ:=(List.pairwise_append.1 (List.pairwise_append.1 hp).1).2.2;rcases List.mem_append.1 hx with h|h
        ·have:=aJ x h a (List.mem_singleton.2 rfl);rw[af.o]at this;omega
        ·rw[List.mem_singleton.1 h,af.o];omega
       have G:=S au;rw[aF.o]at G;clear S au y Z
       go_wp2_with fail
       go_quiet (fail)
       rename Nat=>H
       have U2:Hid (Below w.heap.size w (v.drewN H)):=κ (Below.drewN' U.o _);have O2:Hid (World.ownsRow (v.drewN H) w.heap.size 3 1 (.slice (some (α l 0)) (j+1) c1) (j+1) (ints (nI (p++a :: i :: d)))):=O;clear O U
       go_wp2_with fail
       go_roundg g
       case measure=>omega
       case rel=>exact⟨i+1,j+1,some ⟨l,0,none⟩,c1,by omega,by go_num,rfl,κ ⟨by rw[G.o];simp<;>(have:=aG.o;have:=I.o;omega),by have:=m.o.2;omega⟩,κ (by rw[G.o];exact O2.o),U2⟩
  ·have ay: ¬((i:Nat):Int)<((E.length:Nat):Int):=by omega
   obtain rfl:i=E.length:=by omega
   have aK:=m.o.1;subst aK
   go_wp2_with fail
   go_ret;exact⟨A',c',rfl,Rd.of_own O.o,U.o,own_new O.o⟩
end Hod
namespace Hen
open Lax Go.Lib Wpl Hpa Hws Hrr Lat Apt Mdb
open Lou (op_any)
theorem ent_i:(Tryz.prog.info? 81).map (fun i=>(i.zero,i.size,i.bytes))=some (some (.agg (hA he0)),21,168):=by kernel_rfl
def MadeEn(E:List He)(w:World)(e:Ending)(w':World):Prop:= ∃A c,e= .returned (.slice A E.length c)∧w'.ownsRow w.heap.size 81 21 (.slice A E.length c) E.length (hrow E)∧Below w.heap.size w w'
theorem entries_any(E:List He)(A:Option Addr)(c:Nat)(w:World)(hl:Hid (Rd w w.heap.size A (hrow E)))(hm:E.length≤1000):Calls Tryz.prog 7 #[.slice A E.length c] w (MadeEn E w):=by
 obtain⟨i0,hi,aa,ab,ac⟩:=info_parts ent_i
 go_enter Tryz.func7,Tryz.ntmps7
 go_wp2_with fail
 go_loopg [3,4] E.length (fun g s3 s4 l=> ∃(k:Nat) (W:Option Addr) (X:Nat),k+g=E.length∧s4= ι k∧s3= .slice W k X∧Hid (World.ownsRow l w.heap.size 81 21 (.slice W k X) k (hrow (E.take k)))∧Hid (Below w.heap.size w l))
 case atStart=>exact⟨0,none,0,by omega,rfl,rfl,κ (World.ownsRow_nil _ _ _ _),κ ψ⟩
 case round=>
  obtain⟨k,W,X,hk,rfl,rfl,O,U⟩:=hrel
  rename World=>J
  by_cases hlt:k<E.length
  ·obtain⟨g,rfl⟩: ∃g,gk=g+1:=⟨gk-1,by omega⟩;have L:((k:Nat):Int)<((E.length:Nat):Int):=by omega
   obtain⟨b,o,rfl,P,hc⟩:=hes_at (Rd.below' hl.o U.o U.o.size) (by omega);have f:=hc k hlt;have r:Hid (hrow (E.take (k+1))=hrow (E.take k)++hv (gH E k)):=κ (by rw[take_h hlt,hrow_snoc]);have H:Hid (k≤1000):=κ (by omega);clear hc P;generalize gH E k=x at f r;have ld:=ldr21 f
   go_upto_region 6 with(first|(refine wpList_ld _ _ rfl rfl rfl ld ?_)|(refine wpList_st _ _ _ rfl rfl rfl rfl (str21 _ _) ?_))
   clear ld f;have K:=κ (Blk.fresh J 68 (hA x));have U1:=κ (bst U.o (β J (.cells (hA x) 68)));have O1:=own_below O (β J (.cells (hA x) 68));clear U O;generalize J.alloc (.cells (hA x) 68)=Q at K U1 O1 ⊢;generalize J.heap.size=ge at K ⊢;refine Ω (fun l=>Blk l ge 68 (hA x)) [] ?_;have Y:Hid (Below Q.heap.size Q Q.drew):=κ ψ.drew;have d:Hid (Blk Q.drew ge 68 (hA x)):=K;clear K;generalize Q.drew=wD at d Y ⊢;refine jA 0 d.o ?_;refine jA 1 d.o ?_;refine wpL_load (i:=2) (v:=?_) rfl (by kernel_rfl) (fun _ _ _ h=>h) (by kernel_rfl) (by kernel_rfl) _ _ _ _ (by kernel_rfl) (by kernel_rfl) (Or.inl ⟨by rfl,?_⟩) (by kernel_rfl) d.o ?_;rotate_left
   ·intro l hS;obtain⟨n0,-,-,-,-,-,-,-,-,-,-,-,-,-,-,-,-,-,-,-,-⟩:=q21_of hS;go_simp
    try with_reducible rfl
   refine jP ?_;refine jA 3 d.o ?_;refine wpL_load (i:=4) (v:=?_) rfl (by kernel_rfl) (fun _ _ _ h=>h) (by kernel_rfl) (by kernel_rfl) _ _ _ _ (by kernel_rfl) (by kernel_rfl) (Or.inl ⟨by rfl,?_⟩) (by kernel_rfl) d.o ?_;rotate_left
   ·intro l hS;obtain⟨-,n1,-,-,-,-,-,-,-,-,-,-,-,-,-,-,-,-,-,-,-⟩:=q21_of hS;go_simp
    try with_reducible rfl
   refine jP ?_;refine jA 5 d.o ?_;refine wpL_load (i:=6) (v:=?_) rfl (by kernel_rfl) (fun _ _ _ h=>h) (by kernel_rfl) (by kernel_rfl) _ _ _ _ (by kernel_rfl) (by kernel_rfl) (Or.inl ⟨by rfl,?_⟩) (by kernel_rfl) d.o ?_;rotate_left
   ·intro l hS;obtain⟨-,-,n2,-,-,-,-,-,-,-,-,-,-,-,-,-,-,-,-,-,-⟩:=q21_of hS;go_simp
    try with_reducible rfl
   refine jP ?_;refine jA 7 d.o ?_;refine wpL_load (i:=8) (v:=?_) rfl (by kernel_rfl) (fun _ _ _ h=>h) (by kernel_rfl) (by kernel_rfl) _ _ _ _ (by kernel_rfl) (by kernel_rfl) (Or.inl ⟨by rfl,?_⟩) (by kernel_rfl) d.o ?_;rotate_left
   ·intro l hS;obtain⟨-,-,-,n3,-,-,-,-,-,-,-,-,-,-,-,-,-,-,-,-,-⟩:=q21_of hS;go_simp
    try with_reducible rfl
   refine jP ?_;refine jA 9 d.o ?_;refine wpL_load (i:=10) (v:=?_) rfl (by kernel_rfl) (fun _ _ _ h=>h) (by kernel_rfl) (by kernel_rfl) _ _ _ _ (by kernel_rfl) (by kernel_rfl) (Or.inl ⟨by rfl,?_⟩) (by kernel_rfl) d.o ?_;rotate_left
   ·intro l hS;obtain⟨-,-,-,-,n4,n5,n6,n7,n8,n9,ad,ae,af,ag,ah,ai,aj,ak,al,-,-⟩:=q21_of hS;go_simp
    try with_reducible rfl
   refine jP ?_;refine jA 12 d.o ?_;refine jA 13 d.o ?_;refine wpL_load (i:=14) (v:=?_) rfl (by kernel_rfl) (fun _ _ _ h=>h) (by kernel_rfl) (by kernel_rfl) _ _ _ _ (by kernel_rfl) (by kernel_rfl) (Or.inl ⟨by rfl,?_⟩) (by kernel_rfl) d.o ?_;rotate_left
   ·intro l hS;obtain⟨-,-,-,-,-,-,-,-,-,-,-,-,-,-,-,-,-,-,-,am,-⟩:=q21_of hS;go_simp
    try with_reducible rfl
   refine jP ?_;refine jA 15 d.o ?_;refine jA 16 d.o ?_;refine wpL_load (i:=17) (v:=?_) rfl (by kernel_rfl) (fun _ _ _ h=>h) (by kernel_rfl) (by kernel_rfl) _ _ _ _ (by kernel_rfl) (by kernel_rfl) (Or.inl ⟨by rfl,?_⟩) (by kernel_rfl) d.o ?_;rotate_left
   ·intro l hS;obtain⟨-,-,-,-,-,-,-,-,-,-,-,-,-,-,-,-,-,-,-,-,an⟩:=q21_of hS;go_simp
    try with_reducible rfl
   refine jP ?_;refine jA 18 d.o ?_;refine jN 11 fun R G=>?_
   go_simp;refine(op_any x.m.k x.m.a x.m.s x.m.p x.m.q x.m.n x.m.t x.m.i x.m.y x.m.z x.m.v x.sx x.ex x.m.x x.sw wD).mono ?_;rintro e C ⟨rfl,P⟩;have Z:=κ (d.o.below' P);have BE:=κ (Y.o.trans (P.mono Y.o.size));refine G.out _ _ Z.o ?_;clear G R P d Y;refine jP ?_;refine jA 19 Z.o ?_;refine jN 20 fun R G=>?_
   go_simp;have hu:Below C.heap.size C (C.alloc (.cells (hA x) 81)):=β C _;have HF:=κ (Z.o.below' hu);have BF:=κ (BE.o.trans (hu.mono BE.o.size));have R5:Hid (Rd (C.alloc (.cells (hA x) 81)) (C.alloc (.cells (hA x) 81)).heap.size (some ⟨C.heap.size,0,none⟩) (hv x)):=κ (rd_new rfl);refine G.out _ _ HF.o ?_;clear G R hu Z BE;refine jP ?_;generalize C.alloc (.cells (hA x) 81)=wF at HF BF R5 ⊢;generalize C.heap.size=gQ at R5 ⊢;have U2:=κ (bst U1.o BF.o);have O2:=own_below O1 BF.o;obtain⟨n6,F⟩: ∃j,j=k+1:=⟨_,rfl⟩;have S:=κ F;clear F U1 O1 BF;refine jN 21 fun R G=>?_
   refine step_appA O2 R5 S.o rfl _ _ _ rfl i0 (.agg (hA he0)) 168 Tryz.underlying34 hi aa ab ac rfl (by decide) rfl rfl rfl (by simpa[hrow] using hrow_one [x]) (by have:=H.o;unfold maxLen;omega) (by have:=H.o;omega) U2.o.size ?_;intro A6 c6 wG T I V;have HG:=κ (blk_own_grown HF.o O2.o (by decide) I.o);have UG:=κ (grown_below U2.o O2.o I.o τ U2.o.size);have o7:Hid (World.ownsRow wG w.heap.size 81 21 (.slice A6 n6 c6) n6 (hrow (E.take (k+1)))):=κ (by rw[r.o];exact T.o);refine G.out _ _ HG.o ?_;clear G R HF O2 U2 R5 T I V r;refine jP ?_;refine jA 22 HG.o ?_;refine Δ ?_;clear HG;have ek:wrap64 ((k:Int)+1)=(k:Int)+1:=by have:=H.o;unfold wrap64;omega
   go_wp2_with fail
   go_roundg g
   case measure=>omega
   case rel=>
    have F:=S.o;subst F;exact⟨k+1,A6,c6,by omega,by first|(rw[ek,Int.natCast_add];rfl)|(rw[Int.natCast_add];rfl),rfl,o7,UG⟩
  ·have L: ¬((k:Nat):Int)<((E.length:Nat):Int):=by omega
   obtain rfl:k=E.length:=by omega
   rw[List.take_length]at O
   go_wp2_with fail
   go_ret;exact⟨W,X,rfl,O.o,U.o⟩
end Hen
end Go.Proofs.YtcccdikhfgpamaaGreat
