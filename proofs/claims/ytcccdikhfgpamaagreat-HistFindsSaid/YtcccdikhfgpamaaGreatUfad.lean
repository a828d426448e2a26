/- Texts side by side. -/
import Derived.Lib.SliceRun
import Derived.ArgAppend
import Derived.Deep.Upon
import Derived.WalkSpells
import Derived.Deep.RegionWith
import Derived.Lib.LazyBuf
import Derived.Deep.MidRow
import Derived.Test.YtcccdikhfgpamaaGreatUfac
set_option linter.unusedVariables false
set_option linter.unusedSimpArgs false
set_option maxRecDepth 100000
set_option maxHeartbeats 16000000
namespace Go.Proofs.YtcccdikhfgpamaaGreat
open Kap Go.ChangeShapes Go.WideShapes Go.RowKit Mem
namespace Bkp
open Tre Ref3 Law3
theorem blk_hd{w:World}{te:TypeId}{cs:Array Value}{g:Nat}(h:g=w.heap.size):Blk (w.alloc (.cells cs te)) g te cs:=by subst h;exact Blk.fresh _ _ _
structure Od where
 a:Int
 s:Int
 x:Bool
 p:Int
 q:Int
 n:Int
 t:Int
def odA(o:Od):Value:= .agg #[.int .i64 o.a,.int .i64 o.s,.bool o.x,.int .i64 o.p,.int .i64 o.q,.int .i64 o.n,.int .i64 o.t]
def od0:Od:=⟨0,0,false,0,0,0,0⟩
def WfO(o:Od):Prop:=inI o.a∧inI o.s∧inI o.p∧inI o.q∧inI o.n∧inI o.t
structure En where
 id:Int
 o:Od
 lf:Int
 st:Int
 ep:Int
def enV(e:En):List Value:=[.int .i64 e.id,.int .i64 e.o.a,.int .i64 e.o.s,.bool e.o.x,.int .i64 e.o.p,.int .i64 e.o.q,.int .i64 e.o.n,.int .i64 e.o.t,.int .i64 e.lf,.int .i64 e.st,.int .i64 e.ep]
def enA(e:En):Value:= .agg #[.int .i64 e.id,.int .i64 e.o.a,.int .i64 e.o.s,.bool e.o.x,.int .i64 e.o.p,.int .i64 e.o.q,.int .i64 e.o.n,.int .i64 e.o.t,.int .i64 e.lf,.int .i64 e.st,.int .i64 e.ep]
def en0:En:=⟨0,od0,0,0,0⟩
def gE(l:List En)(i:Nat):En:=l.getD i en0
def ens(l:List En):List Value:=l.flatMap enV
theorem ens_len(l:List En):(ens l).length=l.length*11:=by
 induction l with
 |nil=>rfl
 |cons p l ih=>simp[ens,enV]at ih ⊢;omega
theorem ens_app(l m:List En):ens (l++m)=ens l++ens m:=by simp[ens]
theorem ens_snoc(l:List En)(e:En):ens (l++[e])=ens l++enV e:=by simp[ens]
theorem ens_one(l:List En): ∀u∈ens l,u.oneCell'=true:=by
 intro u a;simp only[ens,List.mem_flatMap]at a;obtain⟨e,_,b⟩:=a;simp only[enV,List.mem_cons,List.not_mem_nil,or_false]at b;rcases b with rfl|rfl|rfl|rfl|rfl|rfl|rfl|rfl|rfl|rfl|rfl<;>rfl
theorem ens_get(l:List En)(i j:Nat)(hi:i<l.length)(hj:j<11):(ens l)[i*11+j]? =(enV (gE l i))[j]? :=by
 induction l generalizing i with
 |nil=>simp at hi
 |cons m l ih=>
  cases i with
  |zero=>
   show(enV m++ens l)[0*11+j]? =(enV m)[j]?;rw[List.getElem?_append_left (by simp[enV];omega)];simp
  |succ i=>
   have h:=ih i (by simpa using hi);show(enV m++ens l)[(i+1)*11+j]? =(enV (gE l i))[j]?;rw[List.getElem?_append_right (by simp[enV];omega),←h]
   congr 1
   simp[enV];omega
theorem ens_drop(l:List En)(k:Nat):(ens l).drop (k*11)=ens (l.drop k):=by
 induction k generalizing l with
 |zero=>simp
 |succ k ih=>
  cases l with
  |nil=>simp[ens]
  |cons e l=>
   have h:ens (e :: l)=enV e++ens l:=rfl;have a:(k+1)*11=(enV e).length+k*11:=by simp[enV];omega
   rw[h,a,List.drop_append,Nat.add_sub_cancel_left,ih];simp
theorem ens_take(l:List En)(k:Nat):(ens l).take (k*11)=ens (l.take k):=by
 induction k generalizing l with
 |zero=>simp[ens]
 |succ k ih=>
  cases l with
  |nil=>simp[ens]
  |cons e l=>
   have h:ens (e :: l)=enV e++ens l:=rfl;have a:(k+1)*11=(enV e).length+k*11:=by simp[enV];omega
   rw[h,a,List.take_append,Nat.add_sub_cancel_left,ih,List.take_of_length_le (by omega)]
   rfl
theorem Ens.at{w:World}{B:Nat}{A:Option Addr}{l:List En}(h:Rd w B A (ens l))(hi:0<l.length):
  ∃b o,A=some ⟨b,o,none⟩∧b<B∧ ∀j,j<l.length→w.cell? ⟨b,o+j*11,none⟩=some (.int .i64 (gE l j).id)∧w.cell? ⟨b,o+j*11+1,none⟩=some (.int .i64 (gE l j).o.a)∧w.cell? ⟨b,o+j*11+2,none⟩=some (.int .i64 (gE l j).o.s)∧w.cell? ⟨b,o+j*11+3,none⟩=some (.bool (gE l j).o.x)∧w.cell? ⟨b,o+j*11+4,none⟩=some (.int .i64 (gE l j).o.p)∧w.cell? ⟨b,o+j*11+5,none⟩=some (.int .i64 (gE l j).o.q)∧w.cell? ⟨b,o+j*11+6,none⟩=some (.int .i64 (gE l j).o.n)∧w.cell? ⟨b,o+j*11+7,none⟩=some (.int .i64 (gE l j).o.t)∧w.cell? ⟨b,o+j*11+8,none⟩=some (.int .i64 (gE l j).lf)∧w.cell? ⟨b,o+j*11+9,none⟩=some (.int .i64 (gE l j).st)∧w.cell? ⟨b,o+j*11+10,none⟩=some (.int .i64 (gE l j).ep):=by
 obtain⟨b,o,hA,c,d⟩:=Rd.at h (by intro e;have:=ens_len l;rw[e]at this;simp at this;omega);refine⟨b,o,hA,c,fun j f=>?_⟩
 have g: ∀k,k<11→ ∀v,(enV (gE l j))[k]? =some v→w.cell? ⟨b,o+j*11+k,none⟩=some v:=by
  intro k i v hv;rw[Nat.add_assoc];exact d _ _ ((ens_get l j k f i).trans hv)
 exact⟨g 0 (by decide) _ rfl,g 1 (by decide) _ rfl,g 2 (by decide) _ rfl,g 3 (by decide) _ rfl,g 4 (by decide) _ rfl,g 5 (by decide) _ rfl,g 6 (by decide) _ rfl,g 7 (by decide) _ rfl,g 8 (by decide) _ rfl,g 9 (by decide) _ rfl,g 10 (by decide) _ rfl⟩
structure Ro where
 ns:List Int
 sec:Int
 cnt:Int
def ro0:Ro:=⟨[],0,0⟩
def gR(l:List Ro)(i:Nat):Ro:=l.getD i ro0
structure Rc where
 A:Option Addr
 c:Nat
 r:Ro
def rc0:Rc:=⟨none,0,ro0⟩
def gC(l:List Rc)(i:Nat):Rc:=l.getD i rc0
def rcV(x:Rc):List Value:=[.slice x.A x.r.ns.length x.c,.int .i64 x.r.sec,.int .i64 x.r.cnt]
def rcs(l:List Rc):List Value:=l.flatMap rcV
theorem rcs_len(l:List Rc):(rcs l).length=l.length*3:=by
 induction l with
 |nil=>rfl
 |cons p l ih=>simp[rcs,rcV]at ih ⊢;omega
theorem rcs_one(l:List Rc): ∀u∈rcs l,u.oneCell'=true:=by
 intro u a;simp only[rcs,List.mem_flatMap]at a;obtain⟨e,_,b⟩:=a;simp only[rcV,List.mem_cons,List.not_mem_nil,or_false]at b;rcases b with rfl|rfl|rfl<;>rfl
theorem rcs_get(l:List Rc)(i j:Nat)(hi:i<l.length)(hj:j<3):(rcs l)[i*3+j]? =(rcV (gC l i))[j]? :=by
 induction l generalizing i with
 |nil=>simp at hi
 |cons m l ih=>
  cases i with
  |zero=>
   show(rcV m++rcs l)[0*3+j]? =(rcV m)[j]?;rw[List.getElem?_append_left (by simp[rcV];omega)];simp
  |succ i=>
   have h:=ih i (by simpa using hi);show(rcV m++rcs l)[(i+1)*3+j]? =(rcV (gC l i))[j]?;rw[List.getElem?_append_right (by simp[rcV];omega),←h]
   congr 1
   simp[rcV];omega
theorem rcs_set(l:List Rc)(i:Nat)(x:Rc)(hi:i<l.length):rcs (l.set i x)=(((rcs l).set (i*3) (.slice x.A x.r.ns.length x.c)).set (i*3+1) (.int .i64 x.r.sec)).set (i*3+2) (.int .i64 x.r.cnt):=by
 induction l generalizing i with
 |nil=>simp at hi
 |cons m l ih=>
  cases i with
  |zero=>simp[rcs,rcV]
  |succ i=>
   have h:=ih i (by simpa using hi);have e: ∀l',rcs (m :: l')=rcV m++rcs l':=fun _=>rfl
   have a:(i+1)*3=i*3+1+1+1:=by omega
   simp only[List.set_cons_succ];rw[e,e,h,a];simp[rcV]
theorem rcs_setA(l:List Rc)(i:Nat)(hi:i<l.length)(A:Option Addr)(c:Nat)(ns:List Int):rcs (l.set i ⟨A,c,⟨ns,(gC l i).r.sec,(gC l i).r.cnt⟩⟩)=(rcs l).set (i*3) (.slice A ns.length c):=by
 induction l generalizing i with
 |nil=>simp at hi
 |cons m l ih=>
  cases i with
  |zero=>simp[rcs,rcV,gC]
  |succ i=>
   have h:=ih i (by simpa using hi);have e: ∀l',rcs (m :: l')=rcV m++rcs l':=fun _=>rfl
   have a:(i+1)*3=i*3+1+1+1:=by omega
   have b:gC (m :: l) (i+1)=gC l i:=by simp[gC]
   simp only[List.set_cons_succ];rw[e,e,a,b,h];simp[rcV]
theorem Rcs.at{w:World}{B:Nat}{A:Option Addr}{l:List Rc}(h:Rd w B A (rcs l))(hi:0<l.length):
  ∃b o,A=some ⟨b,o,none⟩∧b<B∧ ∀j,j<l.length→w.cell? ⟨b,o+j*3,none⟩=some (.slice (gC l j).A (gC l j).r.ns.length (gC l j).c)∧w.cell? ⟨b,o+j*3+1,none⟩=some (.int .i64 (gC l j).r.sec)∧w.cell? ⟨b,o+j*3+2,none⟩=some (.int .i64 (gC l j).r.cnt):=by
 obtain⟨b,o,hA,a,d⟩:=Rd.at h (by intro e;have:=rcs_len l;rw[e]at this;simp at this;omega);refine⟨b,o,hA,a,fun j f=>?_⟩
 have g: ∀k,k<3→ ∀v,(rcV (gC l j))[k]? =some v→w.cell? ⟨b,o+j*3+k,none⟩=some v:=by
  intro k i v hv;rw[Nat.add_assoc];exact d _ _ ((rcs_get l j k f i).trans hv)
 exact⟨g 0 (by decide) _ rfl,g 1 (by decide) _ rfl,g 2 (by decide) _ rfl⟩
structure Bk where
 sh:Int
 ca:Int
 rows:List Ro
 op:List En
structure Bm(w:World)(A C:Option Addr)(rl:List Rc)(b:Bk):Prop where
 r:Rd w w.heap.size A (rcs rl)
 e:rl.map Rc.r=b.rows
 n: ∀i,i<rl.length→Ris w w.heap.size (gC rl i).A (gC rl i).r.ns
 o:Rd w w.heap.size C (ens b.op)
theorem Bm.below{w w':World}{A C:Option Addr}{rl:List Rc}{b:Bk}(h:Bm w A C rl b)(hb:Below w.heap.size w w'):Bm w' A C rl b:=
 ⟨Rd.below' h.r hb hb.size,h.e,fun i a=>Rd.below' (h.n i a) hb hb.size,Rd.below' h.o hb hb.size⟩
theorem Bm.len{w:World}{A C:Option Addr}{rl:List Rc}{b:Bk}(h:Bm w A C rl b):rl.length=b.rows.length:=by rw[←h.e];simp
theorem gC_row{rl:List Rc}{rows:List Ro}(e:rl.map Rc.r=rows){i:Nat}(hi:i<rl.length):(gC rl i).r=gR rows i:=by
 subst e;simp[gC,gR,hi]
def bkA(A C:Option Addr)(c d:Nat)(b:Bk):Value:= .agg #[.int .i64 b.sh,.int .i64 b.ca,.slice A b.rows.length c,.slice C b.op.length d]
end Bkp
namespace Dlk
variable {P:Program}
variable {xs:List Value} {base cap g n size:Nat} {e:TypeId} {w w':World}
theorem zeroCells_len(z:Array Value)(n:Nat):(Builtin.zeroCells z n).toList.length=n*z.size:=by simp[Builtin.zeroCells]
theorem zeroCells_one(z:Array Value)(n:Nat)(h: ∀u∈z,u.oneCell'=true)(h0:0<z.size): ∀u∈(Builtin.zeroCells z n).toList,u.oneCell'=true:=by
 intro u a;simp only[Builtin.zeroCells,Array.toList_map,List.mem_map]at a;obtain⟨i,_,rfl⟩:=a;have b:i%z.size<z.size:=Nat.mod_lt _ h0;rw[getElem!_pos z (i%z.size) b];exact h _ (Array.getElem_mem b)
theorem run_clear_any(w:World)(t e ty:TypeId)(z:Value)(ht:P.underlying t=some (.slice e))(hv: ∀w,(zeroValue e).run P w= .ok z w)(size:Nat)(hs:z.cells.size=size)(h0:0<size)(h1: ∀u∈z.cells,u.oneCell'=true)(b o n c:Nat)(hn:0<n)
  (hc: ∀j,j<n*size→(w.cell? ⟨b,o+j,none⟩).isSome=true)(hf: ∀j,j<n*size→w.frozen? ⟨b,o+j,none⟩=false):
  (Builtin.clear_ #[t] ty #[.slice (some ⟨b,o,none⟩) n c]).run P w= .ok (.tuple #[]) (w.setCells b o (Builtin.zeroCells z.cells n).toList):=by
 have d:=zeroCells_len z.cells n;rw[hs]at d;have a:=run_storeCells_cells (P:=P) b o (Builtin.zeroCells z.cells n).toList 0 w (by rw[d];simpa using hc) (by rw[d];simpa using hf) (zeroCells_one _ _ h1 (by omega));simp only[Nat.add_zero]at a;obtain⟨m,rfl⟩: ∃m,n=m+1:=⟨n-1,by omega⟩;simp[Builtin.clear_,run_underlying ht,hv,a]
theorem own_room(h:w.ownsRow base e size (.slice (some ⟨g,0,none⟩) n cap) n xs):
  base≤g∧g<w.heap.size∧n≤cap∧cap≤maxLen∧(∀j,j<cap*size→(w.cell? ⟨g,j,none⟩).isSome=true∧w.frozen? ⟨g,j,none⟩=false)∧(∀j u,xs[j]? =some u→w.cell? ⟨g,j,none⟩=some u):=by
 rcases h.2 with⟨d,_⟩|⟨p,l,a,d,m,f,i,k,o,b⟩
 ·simp at d
 ·simp only[Value.slice.injEq,Option.some.injEq,Addr.mk.injEq,and_true,true_and]at d;obtain⟨rfl,rfl⟩:=d;refine⟨m,(Array.getElem?_eq_some_iff.1 f).1,i,k,fun j q=>?_,fun j u c=>?_⟩
  ·rw[cell_of_row w g j a e (0,0) f];exact⟨by rw[Array.getElem?_eq_getElem (by omega)];rfl,frozen_of_row w g j a e f⟩
  ·rw[cell_of_row w g j a e (0,0) f];rw[←b]at c;rw[List.getElem?_take]at c;split at c
   ·simpa using c
   ·simp at c
theorem grown_setCells(h:w.grownBy w' (some g)): ∀(vs:List Value) (o:Nat),w.grownBy (w'.setCells g o vs) (some g):=by
 intro vs
 induction vs generalizing w' with
 |nil=>intro o;exact h
 |cons v r ih=>
  intro o;refine ih (w':=w'.setCell (α g o) v) ⟨h.os,h.tape,h.output,by simpa[World.setCell] using h.size,fun k b a=>?_⟩ (o+1);exact(heap_setCell_other w' (α g o) k v (fun e=>a (by simp[e]))).trans (h.block k b a)
theorem grown_refl(w:World)(r:Option Nat):w.grownBy w r:=⟨rfl,rfl,rfl,τ,fun _ _ _=>rfl⟩
theorem grown_drew{r:Option Nat}(h:w.grownBy w' r):w.grownBy w'.drew r:=⟨h.os,h.tape,h.output,h.size,h.block⟩
theorem del_reads{i j:Nat}(h:w.ownsRow base e size (.slice (some ⟨g,0,none⟩) n cap) n xs)(hij:i≤j)(hj:j≤n)(zs:List Value):
  Rd ((w.drew.setCells g (i*size) (xs.drop (j*size))).setCells g ((i+(n-j))*size) zs) ((w.drew.setCells g (i*size) (xs.drop (j*size))).setCells g ((i+(n-j))*size) zs).heap.size (some ⟨g,0,none⟩) (xs.take (i*size)++xs.drop (j*size)):=by
 obtain⟨z,o,d,p,a,b⟩:=own_room h;have c:xs.length=n*size:=h.1;have f:(xs.drop (j*size)).length=(n-j)*size:=by rw[List.length_drop,c,Nat.sub_mul]
 have r:j*size≤n*size:=Nat.mul_le_mul_right _ hj;have s:i*size≤j*size:=Nat.mul_le_mul_right _ hij;have l:n*size≤cap*size:=Nat.mul_le_mul_right _ d;have A:(i+(n-j))*size=i*size+(n-j)*size:=Nat.add_mul _ _ _;have C:(n-j)*size=n*size-j*size:=Nat.sub_mul _ _ _;have x:w.grownBy ((w.drew.setCells g (i*size) (xs.drop (j*size))).setCells g ((i+(n-j))*size) zs) (some g):=grown_setCells (grown_setCells (grown_drew (grown_refl w _)) _ _) _ _;refine .inr ⟨g,0,rfl,by have:=x.size;omega,fun t v hv=>?_⟩
 have E:t<i*size+(n-j)*size:=by
  have:=(List.getElem?_eq_some_iff.1 hv).1;rw[List.length_append,f,List.length_take]at this;omega
 rw[Nat.zero_add,World.cell?_setCells_out g zs _ _ ⟨g,t,none⟩ (fun _ _=>Or.inl (by simp only[];omega))];by_cases h1:t<i*size
 ·rw[World.cell?_setCells_out g _ _ _ ⟨g,t,none⟩ (fun _ _=>Or.inl h1)];rw[List.getElem?_append_left (by rw[List.length_take];omega),List.getElem?_take,if_pos h1]at hv;exact b t v hv
 ·obtain⟨k,rfl⟩: ∃k,t=i*size+k:=⟨t-i*size,by omega⟩;have m:k<(xs.drop (j*size)).length:=by omega
  have:=World.cell?_setCells_in g (xs.drop (j*size)) (i*size) w.drew (fun q y=>by rw[f]at y;exact(a (i*size+q) (by omega)).1) k m;rw[this];rw[List.getElem?_append_right (by rw[List.length_take];omega),List.length_take,show i*size+k-min (i*size) xs.length=k by omega]at hv;rw[List.getElem?_eq_getElem m]at hv;exact hv
end Dlk
namespace Crd
open Go.ChangeAt Tre Ref3 Law3
theorem i64_info:(Tryz.prog.info? 2).map (fun i=>(i.zero,i.size,i.bytes))=some (some (.int .i64 0),1,8):=by kernel_rfl
def OwnN(base:Nat)(w:World)(A:Option Addr)(c:Nat)(l:List (Int×Int)):Prop:=w.ownsRow base 151 2 (.slice A l.length c) l.length (nds l)
def OwnI(base:Nat)(w:World)(A:Option Addr)(c:Nat)(u:List Int):Prop:=w.ownsRow base 2 1 (.slice A u.length c) u.length (ints u)
def MadeOwnN(l:List (Int×Int))(w:World)(e:Ending)(w':World):Prop:= ∃A c,e= .returned (.slice A l.length c)∧OwnN w.heap.size w' A c l∧Below w.heap.size w w'
def MadeOwnI(u:List Int)(w:World)(e:Ending)(w':World):Prop:= ∃A c,e= .returned (.slice A u.length c)∧OwnI w.heap.size w' A c u∧Below w.heap.size w w'
theorem cloneN_any(A:Option Addr)(c:Nat)(l:List (Int×Int))(w:World)(hl:Hid (Nds w w.heap.size A l))(hmax:(l.length:Int)≤1000000):
  Calls Tryz.prog 113 #[.slice A l.length c] w (MadeOwnN l w):=by
 obtain⟨q,r,e,f,g⟩:=info_parts node_info;have v:=fun(W:World) (n c:Nat)=>Lib.run_eql_slice_nil (P:=Tryz.prog) W 40 151 A n c 0 0 Tryz.underlying40
 cases A with
 |none=>
  have i:l=[]:=by
   rcases hl.o with h|⟨b,o,h,_⟩
   ·have:=nds_len l;rw[h]at this;simp at this;exact List.eq_nil_of_length_eq_zero (by omega)
   ·cases h
  subst i
  go_enter Tryz.func113,Tryz.ntmps113
  go_wp2_with fail
  go_ret;exact⟨none,0,rfl,World.ownsRow_nil _ _ _ _,Below.refl _ _⟩
 |some ad=>
  have j:Hid (Rd (w.alloc (.cells #[] 151)) w.heap.size (some ad) (nds l)):=Rd.below hl.o (ψ.alloc τ _);have k:Hid ((w.alloc (.cells #[] 151)).ownsRow w.heap.size 151 2 (.slice (some (α w.heap.size 0)) 0 0) 0 []):=own_empty (Blk.fresh w _ _) τ;have m:Below w.heap.size w (w.alloc (.cells #[] 151)):=β w (.cells #[] 151)
  go_enter Tryz.func113,Tryz.ntmps113
  go_wp2_with (at_builtin;go_loud (refine wpList_appR (nm:=l.length) k m j (by simp) rfl _ _ _ rfl q (.agg #[.int .i64 0,.int .i64 0]) 16 Tryz.underlying40 r e f g rfl (by decide) rfl rfl (nds_len l) (nds_one l) (by unfold maxLen;omega) (by omega) τ (by simp) (by simp) ?_);intro s t x a d p)
  go_ret;exact⟨s,t,rfl,a,d⟩
theorem cloneI_any(A:Option Addr)(c:Nat)(l:List Int)(w:World)(hl:Hid (Ris w w.heap.size A l))(hmax:(l.length:Int)≤1000000):
  Calls Tryz.prog 155 #[.slice A l.length c] w (MadeOwnI l w):=by
 obtain⟨q,r,e,f,g⟩:=info_parts i64_info;have v:=fun(W:World) (n c:Nat)=>Lib.run_eql_slice_nil (P:=Tryz.prog) W 112 2 A n c 0 0 Tryz.underlying112
 cases A with
 |none=>
  have i:l=[]:=by
   rcases hl.o with h|⟨b,o,h,_⟩
   ·have:=ints_len l;rw[h]at this;simp at this;exact List.eq_nil_of_length_eq_zero (by omega)
   ·cases h
  subst i
  go_enter Tryz.func155,Tryz.ntmps155
  go_wp2_with fail
  go_ret;exact⟨none,0,rfl,World.ownsRow_nil _ _ _ _,Below.refl _ _⟩
 |some ad=>
  have j:Hid (Rd (w.alloc (.cells #[] 2)) w.heap.size (some ad) (ints l)):=Rd.below hl.o (ψ.alloc τ _);have k:Hid ((w.alloc (.cells #[] 2)).ownsRow w.heap.size 2 1 (.slice (some (α w.heap.size 0)) 0 0) 0 []):=own_empty (Blk.fresh w _ _) τ;have m:Below w.heap.size w (w.alloc (.cells #[] 2)):=β w (.cells #[] 2)
  go_enter Tryz.func155,Tryz.ntmps155
  go_wp2_with (at_builtin;go_loud (refine wpList_appR (nm:=l.length) k m j (by simp) rfl _ _ _ rfl q (.int .i64 0) 8 Tryz.underlying112 r e f g rfl (by decide) rfl rfl (by rw[ints_len];omega) (ints_one l) (by unfold maxLen;omega) (by omega) τ (by simp) (by simp) ?_);intro s t x a d p)
  go_ret;exact⟨s,t,rfl,a,d⟩
end Crd
namespace Bcl
open Go.ChangeAt Tre Ref3 Law3 Crd Bkp Dlk
theorem ints_len1(l:List Int):(ints l).length=l.length*1:=by rw[ints_len];omega
def MadeOw(te:TypeId)(size:Nat)(n:Nat)(xs:List Value)(w:World)(e:Ending)(w':World):Prop:=
 ∃A c,e= .returned (.slice A n c)∧w'.ownsRow w.heap.size te size (.slice A n c) n xs∧Below w.heap.size w w'
theorem infoR:(Tryz.prog.info? 243).map (fun i=>(i.zero,i.size,i.bytes))=some (some (.agg #[.slice none 0 0,.int .i64 0,.int .i64 0]),3,40):=by kernel_rfl
theorem cloneR(A:Option Addr)(n c:Nat)(l:List Rc)(w:World)(hn:Hid (n=l.length))(hl:Hid (Rd w w.heap.size A (rcs l)))(hmax:(n:Int)≤1000000):
  Calls Tryz.prog 154 #[.slice A n c] w (MadeOw 243 3 n (rcs l) w):=by
 obtain⟨s,t,g,i,j⟩:=info_parts infoR;have z:=fun(W:World) (n c:Nat)=>Lib.run_eql_slice_nil (P:=Tryz.prog) W 178 243 A n c 0 0 Tryz.underlying178
 have a:Hid ((rcs l).length=n*3):=by show _=_;rw[hn.o];exact rcs_len l
 cases A with
 |none=>
  have d:rcs l=[]:=by
   rcases hl.o with h|⟨b,o,h,_⟩
   ·exact h
   ·cases h
  have k:n=0:=by have:=a.o;rw[d]at this;simp at this;omega
  have v:=κ d;clear hn a d;subst k
  go_enter Tryz.func154,Tryz.ntmps154
  go_wp2_with fail
  go_ret;rw[v.o];exact⟨none,0,rfl,World.ownsRow_nil _ _ _ _,Below.refl _ _⟩
 |some ad=>
  have m:Hid (Rd (w.alloc (.cells #[] 243)) w.heap.size (some ad) (rcs l)):=Rd.below hl.o (ψ.alloc τ _);have p:Hid ((w.alloc (.cells #[] 243)).ownsRow w.heap.size 243 3 (.slice (some (α w.heap.size 0)) 0 0) 0 []):=own_empty (Blk.fresh w _ _) τ;have q:=β w (.cells #[] 243)
  go_enter Tryz.func154,Tryz.ntmps154
  go_wp2_with (at_builtin;go_loud (refine wpList_appR (nm:=n) p q m (by simp) rfl _ _ _ rfl s (.agg #[.slice none 0 0,.int .i64 0,.int .i64 0]) 40 Tryz.underlying178 t g i j rfl (by decide) rfl rfl a.o (rcs_one l) (by unfold maxLen;omega) (by omega) τ (by simp) (by simp) ?_);intro x y C e f r)
  go_ret;exact⟨x,y,rfl,e,f⟩
theorem infoE:(Tryz.prog.info? 203).map (fun i=>(i.zero,i.size,i.bytes))=some (some (.agg #[.int .i64 0,.int .i64 0,.int .i64 0,.bool false,.int .i64 0,.int .i64 0,.int .i64 0,.int .i64 0,.int .i64 0,.int .i64 0,.int .i64 0]),11,88):=by kernel_rfl
theorem cloneE(A:Option Addr)(n c:Nat)(l:List En)(w:World)(hn:Hid (n=l.length))(hl:Hid (Rd w w.heap.size A (ens l)))(hmax:(n:Int)≤1000000):
  Calls Tryz.prog 153 #[.slice A n c] w (MadeOw 203 11 n (ens l) w):=by
 obtain⟨s,t,g,i,j⟩:=info_parts infoE;have z:=fun(W:World) (n c:Nat)=>Lib.run_eql_slice_nil (P:=Tryz.prog) W 179 203 A n c 0 0 Tryz.underlying179
 have a:Hid ((ens l).length=n*11):=by show _=_;rw[hn.o];exact ens_len l
 cases A with
 |none=>
  have d:ens l=[]:=by
   rcases hl.o with h|⟨b,o,h,_⟩
   ·exact h
   ·cases h
  have k:n=0:=by have:=a.o;rw[d]at this;simp at this;omega
  have v:=κ d;clear hn a d;subst k
  go_enter Tryz.func153,Tryz.ntmps153
  go_wp2_with fail
  go_ret;rw[v.o];exact⟨none,0,rfl,World.ownsRow_nil _ _ _ _,Below.refl _ _⟩
 |some ad=>
  have m:Hid (Rd (w.alloc (.cells #[] 203)) w.heap.size (some ad) (ens l)):=Rd.below hl.o (ψ.alloc τ _);have p:Hid ((w.alloc (.cells #[] 203)).ownsRow w.heap.size 203 11 (.slice (some (α w.heap.size 0)) 0 0) 0 []):=own_empty (Blk.fresh w _ _) τ;have q:=β w (.cells #[] 203)
  go_enter Tryz.func153,Tryz.ntmps153
  go_wp2_with (at_builtin;go_loud (refine wpList_appR (nm:=n) p q m (by simp) rfl _ _ _ rfl s (.agg #[.int .i64 0,.int .i64 0,.int .i64 0,.bool false,.int .i64 0,.int .i64 0,.int .i64 0,.int .i64 0,.int .i64 0,.int .i64 0,.int .i64 0]) 88 Tryz.underlying179 t g i j rfl (by decide) rfl rfl a.o (ens_one l) (by unfold maxLen;omega) (by omega) τ (by simp) (by simp) ?_);intro x y C e f r)
  go_ret;exact⟨x,y,rfl,e,f⟩
theorem infoI:(Tryz.prog.info? 2).map (fun i=>(i.zero,i.size,i.bytes))=some (some (.int .i64 0),1,8):=by kernel_rfl
theorem cloneI(A:Option Addr)(n c:Nat)(l:List Int)(w:World)(hn:Hid (n=l.length))(hl:Hid (Rd w w.heap.size A (ints l)))(hmax:(n:Int)≤1000000):
  Calls Tryz.prog 155 #[.slice A n c] w (MadeOw 2 1 n (ints l) w):=by
 obtain⟨s,t,g,i,j⟩:=info_parts infoI;have z:=fun(W:World) (n c:Nat)=>Lib.run_eql_slice_nil (P:=Tryz.prog) W 112 2 A n c 0 0 Tryz.underlying112
 have a:Hid ((ints l).length=n*1):=by show _=_;rw[hn.o];exact ints_len1 l
 cases A with
 |none=>
  have d:ints l=[]:=by
   rcases hl.o with h|⟨b,o,h,_⟩
   ·exact h
   ·cases h
  have k:n=0:=by have:=a.o;rw[d]at this;simp at this;omega
  have v:=κ d;clear hn a d;subst k
  go_enter Tryz.func155,Tryz.ntmps155
  go_wp2_with fail
  go_ret;rw[v.o];exact⟨none,0,rfl,World.ownsRow_nil _ _ _ _,Below.refl _ _⟩
 |some ad=>
  have m:Hid (Rd (w.alloc (.cells #[] 2)) w.heap.size (some ad) (ints l)):=Rd.below hl.o (ψ.alloc τ _);have p:Hid ((w.alloc (.cells #[] 2)).ownsRow w.heap.size 2 1 (.slice (some (α w.heap.size 0)) 0 0) 0 []):=own_empty (Blk.fresh w _ _) τ;have q:=β w (.cells #[] 2)
  go_enter Tryz.func155,Tryz.ntmps155
  go_wp2_with (at_builtin;go_loud (refine wpList_appR (nm:=n) p q m (by simp) rfl _ _ _ rfl s (.int .i64 0) 8 Tryz.underlying112 t g i j rfl (by decide) rfl rfl a.o (ints_one l) (by unfold maxLen;omega) (by omega) τ (by simp) (by simp) ?_);intro x y C e f r)
  go_ret;exact⟨x,y,rfl,e,f⟩
theorem deleteI(g n cap i j:Nat)(xs:List Value)(base:Nat)(w:World)(how:Hid (w.ownsRow base 2 1 (.slice (some ⟨g,0,none⟩) n cap) n xs))(h1c:Hid (∀u∈xs,u.oneCell'=true))(hij:i<j)(hj:j≤n)(hcap:(cap:Int)≤9223372036854775807):
  Calls Tryz.prog 161 #[.slice (some ⟨g,0,none⟩) n cap,.int .i64 i,.int .i64 j] w (fun e w'=>e= .returned (.slice (some ⟨g,0,none⟩) (i+(n-j)) cap)∧Rd w' w'.heap.size (some ⟨g,0,none⟩) (xs.take (i*1)++xs.drop (j*1))∧w.grownBy w' (some g)):=by
 obtain⟨E,F,G,y,H⟩:=info_parts infoI;obtain⟨W,I,J,K,c,f⟩:=own_room how.o;have z:=κ how.o.1;obtain⟨a,b⟩:=ν (xs.drop (j*1));have k:Hid (a.length=(n-j)*1):=by show _=_;rw[b,List.length_drop,z.o];omega
 obtain⟨A,hA,q⟩: ∃A:Addr,(if cap=j then some (⟨g,0,none⟩:Addr) else some ⟨g,j,none⟩)=some A∧Hid (∀t u,a[t]? =some u→w.drew.cell? (A.add t)=some u):=by
  by_cases h:cap=j
  ·refine⟨(α g 0),by simp[h],fun t u m=>?_⟩;have L:a.length=0:=by rw[k.o];omega
   rw[List.length_eq_zero_iff.1 L]at m;simp at m
  ·refine⟨(α g j),by simp[h],fun t u m=>?_⟩;rw[b,List.getElem?_drop]at m;rw[Addr.add_lit];exact f _ u (by first|exact m|simpa using m)
 have O:Hid (∀u∈a,u.oneCell'=true):=by
  intro u m;rw[b]at m;exact h1c.o u (List.mem_of_mem_drop m)
 have P:Hid (∀t,t<a.length→(w.drew.cell? (α g (0+i*1+t))).isSome=true∧w.drew.frozen? (α g (0+i*1+t))=false):=by
  intro t p;rw[k.o]at p;rw[Nat.zero_add];exact c (i*1+t) (by omega)
 obtain⟨o,l⟩:=ν (w.drew.setCells g (0+i*1) a);have r:w.grownBy o (some g):=by rw[l];exact grown_setCells (grown_drew (grown_refl w _)) _ _
 have d: ∀t,t<cap*1→(o.cell? (α g t)).isSome=true∧o.frozen? (α g t)=false:=by
  intro t p;rw[l];exact⟨World.isSome_setCells g _ _ _ _ (c t p).1,by rw[World.frozen?_setCells];exact(c t p).2⟩
 obtain⟨s,v⟩:=ν ((Builtin.zeroCells (Value.cells (.int .i64 0)) (n-(i+(n-j)))).toList)
 have Q: ∀C,(Builtin.clear_ #[112] C #[.slice (some (α g (i+(n-j)))) (n-(i+(n-j))) (cap-(i+(n-j)))]).run Tryz.prog o= .ok (.tuple #[]) (o.setCells g (i+(n-j)) s):=by
  intro C;rw[v];exact run_clear_any o _ _ C _ Tryz.underlying112 Tryz.zeroValue2 1 rfl (by decide) (by simp[Value.cells,Value.oneCell']) g _ _ _ (by omega) (fun t p=>(d ((i+(n-j))+t) (by omega)).1) (fun t p=>(d ((i+(n-j))+t) (by omega)).2)
 have x:Hid (Rd (o.setCells g (i+(n-j)) s) (o.setCells g (i+(n-j)) s).heap.size (some (α g 0)) (xs.take (i*1)++xs.drop (j*1))∧w.grownBy (o.setCells g (i+(n-j)) s) (some g)):=by
  refine⟨?_,grown_setCells r _ _⟩;rw[l,b,Nat.zero_add];have R:=del_reads (i:=i) (j:=j) how.o (by omega) hj s;simpa only[Nat.mul_one] using R
 have S:=κ l;have T:i≤cap:=by omega
 have U:j≤cap:=by omega
 have V:i≠j:=by omega
 clear l c d r f b v how h1c
 go_enter Tryz.func161,Tryz.ntmps161
 go_wp2_with fail
 go_region_law (refine step_append_room rfl (.tmp 22) (.tmp 25) 112 rfl 2 E 1 Tryz.underlying112 F y g 0 i cap (by simp[Act.eval,Act.put]) A (n-j) (cap-j) a (by simp[Act.eval,Act.put]) k.o q.o O.o (by omega) P.o ?_;rw[←S.o])
 go_wp2_with fail
 go_ret;exact⟨rfl,x.o⟩
theorem deleteE(g n cap i j:Nat)(xs:List Value)(base:Nat)(w:World)(how:Hid (w.ownsRow base 203 11 (.slice (some ⟨g,0,none⟩) n cap) n xs))(h1c:Hid (∀u∈xs,u.oneCell'=true))(hij:i<j)(hj:j≤n)(hcap:(cap:Int)≤9223372036854775807):
  Calls Tryz.prog 139 #[.slice (some ⟨g,0,none⟩) n cap,.int .i64 i,.int .i64 j] w (fun e w'=>e= .returned (.slice (some ⟨g,0,none⟩) (i+(n-j)) cap)∧Rd w' w'.heap.size (some ⟨g,0,none⟩) (xs.take (i*11)++xs.drop (j*11))∧w.grownBy w' (some g)):=by
 obtain⟨E,F,G,y,H⟩:=info_parts infoE;obtain⟨V,I,J,K,c,f⟩:=own_room how.o;have z:=κ how.o.1;obtain⟨a,b⟩:=ν (xs.drop (j*11));have k:Hid (a.length=(n-j)*11):=by show _=_;rw[b,List.length_drop,z.o];omega
 obtain⟨A,hA,q⟩: ∃A:Addr,(if cap=j then some (⟨g,0,none⟩:Addr) else some ⟨g,j*11,none⟩)=some A∧Hid (∀t u,a[t]? =some u→w.drew.cell? (A.add t)=some u):=by
  by_cases h:cap=j
  ·refine⟨(α g 0),by simp[h],fun t u m=>?_⟩;have L:a.length=0:=by rw[k.o];omega
   rw[List.length_eq_zero_iff.1 L]at m;simp at m
  ·refine⟨(α g (j*11)),by simp[h],fun t u m=>?_⟩;rw[b,List.getElem?_drop]at m;rw[Addr.add_lit];exact f _ u (by first|exact m|simpa using m)
 have O:Hid (∀u∈a,u.oneCell'=true):=by
  intro u m;rw[b]at m;exact h1c.o u (List.mem_of_mem_drop m)
 have P:Hid (∀t,t<a.length→(w.drew.cell? (α g (0+i*11+t))).isSome=true∧w.drew.frozen? (α g (0+i*11+t))=false):=by
  intro t p;rw[k.o]at p;rw[Nat.zero_add];exact c (i*11+t) (by omega)
 obtain⟨o,l⟩:=ν (w.drew.setCells g (0+i*11) a);have r:w.grownBy o (some g):=by rw[l];exact grown_setCells (grown_drew (grown_refl w _)) _ _
 have d: ∀t,t<cap*11→(o.cell? (α g t)).isSome=true∧o.frozen? (α g t)=false:=by
  intro t p;rw[l];exact⟨World.isSome_setCells g _ _ _ _ (c t p).1,by rw[World.frozen?_setCells];exact(c t p).2⟩
 obtain⟨s,v⟩:=ν ((Builtin.zeroCells (Value.cells (.agg #[.int .i64 0,.int .i64 0,.int .i64 0,.bool false,.int .i64 0,.int .i64 0,.int .i64 0,.int .i64 0,.int .i64 0,.int .i64 0,.int .i64 0])) (n-(i+(n-j)))).toList)
 have Q: ∀C,(Builtin.clear_ #[179] C #[.slice (some (α g ((i+(n-j))*11))) (n-(i+(n-j))) (cap-(i+(n-j)))]).run Tryz.prog o= .ok (.tuple #[]) (o.setCells g ((i+(n-j))*11) s):=by
  intro C;rw[v];exact run_clear_any o _ _ C _ Tryz.underlying179 Tryz.zeroValue203 11 rfl (by decide) (by simp[Value.cells,Value.oneCell']) g _ _ _ (by omega) (fun t p=>(d (((i+(n-j))*11)+t) (by omega)).1) (fun t p=>(d (((i+(n-j))*11)+t) (by omega)).2)
 have x:Hid (Rd (o.setCells g ((i+(n-j))*11) s) (o.setCells g ((i+(n-j))*11) s).heap.size (some (α g 0)) (xs.take (i*11)++xs.drop (j*11))∧w.grownBy (o.setCells g ((i+(n-j))*11) s) (some g)):=by
  refine⟨?_,grown_setCells r _ _⟩;rw[l,b,Nat.zero_add];exact del_reads (i:=i) (j:=j) how.o (by omega) hj s
 have R:=κ l;have S:i≤cap:=by omega
 have T:j≤cap:=by omega
 have U:i≠j:=by omega
 clear l c d r f b v how h1c
 go_enter Tryz.func139,Tryz.ntmps139
 go_wp2_with fail
 go_region_law (refine step_append_room rfl (.tmp 22) (.tmp 25) 179 rfl 203 E 11 Tryz.underlying179 F y g 0 i cap (by simp[Act.eval,Act.put]) A (n-j) (cap-j) a (by simp[Act.eval,Act.put]) k.o q.o O.o (by omega) P.o ?_;rw[←R.o])
 go_wp2_with fail
 go_ret;exact⟨rfl,x.o⟩
end Bcl
end Go.Proofs.YtcccdikhfgpamaaGreat
