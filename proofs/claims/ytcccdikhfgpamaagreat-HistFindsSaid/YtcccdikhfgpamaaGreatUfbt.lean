/- Texts side by side. -/
import Derived.Deep.WholeRow
import Derived.WalkSmall
import Derived.Maps.Own
import Derived.Maps.OwnSet
import Derived.Maps.Views
import Derived.Test.YtcccdikhfgpamaaGreatUfaw
set_option linter.unusedVariables false
set_option linter.unusedSimpArgs false
set_option maxRecDepth 100000
set_option maxHeartbeats 16000000
namespace Go.Proofs.YtcccdikhfgpamaaGreat
open Kap Go.ChangeShapes Go.WideShapes Go.ChangeAt Go.RowKit Go.Lib Mem
namespace Hpa
open Wpl
def insO(f:Nat→Int)(i:Nat):List Nat→List Nat
 |[]=>[i]
 |a :: t=>if f i<f a then i :: a :: t else a :: insO f i t
def ordN(f:Nat→Int):Nat→List Nat
 |0=>[]
 |n+1=>if f n=0 then ordN f n else insO f n (ordN f n)
theorem insO_perm(f:Nat→Int)(i:Nat): ∀l:List Nat,(insO f i l).Perm (i :: l)
 |[]=>List.Perm.refl _
 |a :: t=>by
  unfold insO
  split
  ·exact List.Perm.refl _
  ·exact(List.Perm.cons a (insO_perm f i t)).trans (List.Perm.swap i a t)
theorem insO_sorted(f:Nat→Int)(i:Nat): ∀l:List Nat,l.Pairwise (fun a b=>f a≤f b)→(insO f i l).Pairwise (fun a b=>f a≤f b)
 |[],_=>by simp[insO]
 |a :: t,h=>by
  unfold insO
  rw[List.pairwise_cons]at h
  split
  ·rename_i hlt
   refine List.pairwise_cons.2 ⟨fun b hb=>?_,List.pairwise_cons.2 h⟩
   rcases List.mem_cons.1 hb with rfl|hb
   ·omega
   ·have:=h.1 b hb;omega
  ·rename_i hlt
   refine List.pairwise_cons.2 ⟨fun b hb=>?_,insO_sorted f i t h.2⟩
   rcases List.mem_cons.1 ((insO_perm f i t).mem_iff.1 hb) with rfl|hb
   ·omega
   ·exact h.1 b hb
theorem ordN_sorted(f:Nat→Int): ∀n,(ordN f n).Pairwise (fun a b=>f a≤f b)
 |0=>List.Pairwise.nil
 |n+1=>by
  unfold ordN
  split
  ·exact ordN_sorted f n
  ·exact insO_sorted f n _ (ordN_sorted f n)
theorem ordN_perm(f:Nat→Int): ∀n,(ordN f n).Perm ((List.range n).filter (fun i=>f i != 0))
 |0=>List.Perm.refl _
 |n+1=>by
  unfold ordN
  rw[List.range_succ,List.filter_append]
  split
  ·rename_i h
   simp only[List.filter_cons,h,bne_self_eq_false,Bool.false_eq_true,if_false,List.filter_nil,List.append_nil]
   exact ordN_perm f n
  ·rename_i h
   have e:[n].filter (fun i=>f i != 0)=[n]:=by simp[h]
   rw[e]
   exact((insO_perm f n _).trans (List.Perm.cons n (ordN_perm f n))).trans (List.perm_append_comm (l₁:=[n]))
theorem ord_one{f:Nat→Int}: ∀{l k:List Nat},l.Perm k→l.Pairwise (fun a b=>f a≤f b)→k.Pairwise (fun a b=>f a≤f b)→(∀a∈l,∀b∈l,f a=f b→a=b)→l=k
 |[],k,hp,_,_,_=>(List.Perm.nil_eq hp)
 |a :: t,k,hp,hl,hk,hi=>by
  match k with
  |[]=>exact absurd hp.length_eq (by simp)
  |b :: s=>
   rw[List.pairwise_cons]at hl hk
   have hb:b∈a :: t:=hp.mem_iff.2 (List.mem_cons_self ..)
   have d:a∈b :: s:=hp.mem_iff.1 (List.mem_cons_self ..)
   have c:f a=f b:=by
    have j:f a≤f b:=by
     rcases List.mem_cons.1 hb with e|h
     ·rw[e];omega
     ·exact hl.1 b h
    have m:f b≤f a:=by
     rcases List.mem_cons.1 d with e|h
     ·rw[e];omega
     ·exact hk.1 a h
    omega
   have e:=hi a (List.mem_cons_self ..) b hb c;subst e;rw[ord_one ((List.perm_cons a).1 hp) hl.2 hk.2 fun x g y i=>hi x (List.mem_cons_of_mem _ g) y (List.mem_cons_of_mem _ i)]
structure He where
 w:Int
 b:Int
 k:Int
 e:Int
 m:M
 sw:Bool
 sx:Int
 ex:Int
 c:Int
 d:Int
def he0:He:=⟨0,0,0,0,m0,false,0,0,0,0⟩
def hv(x:He):List Value:=[.int .i64 x.w,.int .i64 x.b,.int .i64 x.k,.int .i64 x.e]++(mvs x.m++[.bool x.sw,.int .i64 x.sx,.int .i64 x.ex,.int .i64 x.c,.int .i64 x.d])
def hrow(E:List He):List Value:=E.flatMap hv
def gH(E:List He)(i:Nat):He:=E.getD i he0
theorem hrow_len(E:List He):(hrow E).length=E.length*21:=by
 induction E with
 |nil=>rfl
 |cons x t ih=>simp only[hrow,List.flatMap_cons,List.length_append]at ih ⊢;rw[ih];simp[hv,mvs];omega
theorem hrow_get(E:List He)(i j:Nat)(hi:i<E.length)(hj:j<21):(hrow E)[i*21+j]? =(hv (gH E i))[j]? :=by
 induction E generalizing i with
 |nil=>simp at hi
 |cons x t ih=>
  have a:(hv x).length=21:=rfl;show(hv x++hrow t)[i*21+j]? =_;cases i with
  |zero=>rw[List.getElem?_append_left (by rw[a];omega)];simp[gH]
  |succ i=>
   rw[List.getElem?_append_right (by rw[a];omega),a,show(i+1)*21+j-21=i*21+j by omega,ih i (by simpa using hi)];simp[gH]
theorem hrow_snoc(E:List He)(x:He):hrow (E++[x])=hrow E++hv x:=by simp[hrow]
theorem take_h{E:List He}{i:Nat}(h:i<E.length):E.take (i+1)=E.take i++[gH E i]:=by
 rw[List.take_succ_eq_append_getElem h];simp[gH,h]
def timB(b k e:Int):Bool:= !(decide (b<0)||(k != 0&&decide (k≤b)))&&(e==0||(k != 0&&decide (k≤e)))
def timE(x:He):Bool:=timB x.b x.k x.e
def okE(n:Int)(x:He):Bool:=decide (0≤x.w)&&(decide (x.w<n)&&timE x)
def mkS(x:He)(s:List Int):List Int:=if x.k=0 then s else x.k :: s
def rgt(n:Int):List He→List Int→Bool
 |[],_=>true
 |x :: t,s=>okE n x&&(!(s.contains x.k)&&rgt n t (mkS x s))
def rightF(n:Int)(E:List He):Bool:=decide (1≤n)&&(decide (n≤8)&&(decide ((E.length:Int)≤65536)&&rgt n E []))
def seenM:List He→List Int→List Int
 |[],s=>s
 |x :: t,s=>seenM t (mkS x s)
def fk(E:List He)(i:Nat):Int:=(gH E i).k
def ordF(E:List He):List Nat:=ordN (fk E) E.length
abbrev hA(x:He):Array Value:= #[.int .i64 x.w,.int .i64 x.b,.int .i64 x.k,.int .i64 x.e,.int .i64 x.m.k,.int .i64 x.m.a,.int .i64 x.m.s,.bool x.m.x,.int .i64 x.m.p,.int .i64 x.m.q,.int .i64 x.m.n,.int .i64 x.m.t,.int .i64 x.m.i,.int .i64 x.m.y,.int .i64 x.m.z,.int .i64 x.m.v,.bool x.sw,.int .i64 x.sx,.int .i64 x.ex,.int .i64 x.c,.int .i64 x.d]
def H21(w:World)(b o:Nat)(x:He):Prop:=w.cell? ⟨b,o,none⟩=some (.int .i64 x.w)∧w.cell? ⟨b,o+1,none⟩=some (.int .i64 x.b)∧w.cell? ⟨b,o+2,none⟩=some (.int .i64 x.k)∧w.cell? ⟨b,o+3,none⟩=some (.int .i64 x.e)∧w.cell? ⟨b,o+4,none⟩=some (.int .i64 x.m.k)∧w.cell? ⟨b,o+5,none⟩=some (.int .i64 x.m.a)∧w.cell? ⟨b,o+6,none⟩=some (.int .i64 x.m.s)∧w.cell? ⟨b,o+7,none⟩=some (.bool x.m.x)∧w.cell? ⟨b,o+8,none⟩=some (.int .i64 x.m.p)∧w.cell? ⟨b,o+9,none⟩=some (.int .i64 x.m.q)∧w.cell? ⟨b,o+10,none⟩=some (.int .i64 x.m.n)∧w.cell? ⟨b,o+11,none⟩=some (.int .i64 x.m.t)∧w.cell? ⟨b,o+12,none⟩=some (.int .i64 x.m.i)∧w.cell? ⟨b,o+13,none⟩=some (.int .i64 x.m.y)∧w.cell? ⟨b,o+14,none⟩=some (.int .i64 x.m.z)∧w.cell? ⟨b,o+15,none⟩=some (.int .i64 x.m.v)∧w.cell? ⟨b,o+16,none⟩=some (.bool x.sw)∧w.cell? ⟨b,o+17,none⟩=some (.int .i64 x.sx)∧w.cell? ⟨b,o+18,none⟩=some (.int .i64 x.ex)∧w.cell? ⟨b,o+19,none⟩=some (.int .i64 x.c)∧w.cell? ⟨b,o+20,none⟩=some (.int .i64 x.d)
theorem run_ld(W:World)(a:Addr)(cs:List Value)(k:Nat)(hk:cs.length=k)(h: ∀j v,cs[j]? =some v→W.cell? (a.add j)=some v):Sem.run Tryz.prog (loadCellsFrom a 0 k #[]) W= .ok cs.toArray W:=by
 have:=run_loadCells_list (P:=Tryz.prog) (w:=W) a cs h;rw[hk]at this;simpa[loadCells] using this
theorem H21.load{w:World}{b o:Nat}{x:He}(h:H21 w b o x):(loadCellsFrom ⟨b,o,none⟩ 0 21 #[]).run Tryz.prog w= .ok (hA x) w:=by
 have e:(hA x)=(hv x).toArray:=rfl;rw[e];obtain⟨s,t,y,z,A,C,E,F,G,H,c,d,f,g,j,l,m,n,p,q,r⟩:=h;refine run_ld _ _ (hv x) 21 rfl fun i v a=>?_
 have I:((α b o):Addr).add i=(α b (o+i)):=by unfold Addr.add;split<;>simp_all
 rw[I]
 match i,a with
 |0,a=>cases a;exact s
 |1,a=>cases a;exact t
 |2,a=>cases a;exact y
 |3,a=>cases a;exact z
 |4,a=>cases a;exact A
 |5,a=>cases a;exact C
 |6,a=>cases a;exact E
 |7,a=>cases a;exact F
 |8,a=>cases a;exact G
 |9,a=>cases a;exact H
 |10,a=>cases a;exact c
 |11,a=>cases a;exact d
 |12,a=>cases a;exact f
 |13,a=>cases a;exact g
 |14,a=>cases a;exact j
 |15,a=>cases a;exact l
 |16,a=>cases a;exact m
 |17,a=>cases a;exact n
 |18,a=>cases a;exact p
 |19,a=>cases a;exact q
 |20,a=>cases a;exact r
 |k+21,a=>exact absurd a (by simp[hv,mvs])
theorem q21_of{w:World}{g:Nat}{te:TypeId}{x:He}(h:Blk w g te (hA x)):w.cell? ⟨g,0,none⟩=some (.int .i64 x.w)∧w.cell? ⟨g,1,none⟩=some (.int .i64 x.b)∧w.cell? ⟨g,2,none⟩=some (.int .i64 x.k)∧w.cell? ⟨g,3,none⟩=some (.int .i64 x.e)∧w.cell? ⟨g,4,none⟩=some (.int .i64 x.m.k)∧w.cell? ⟨g,5,none⟩=some (.int .i64 x.m.a)∧w.cell? ⟨g,6,none⟩=some (.int .i64 x.m.s)∧w.cell? ⟨g,7,none⟩=some (.bool x.m.x)∧w.cell? ⟨g,8,none⟩=some (.int .i64 x.m.p)∧w.cell? ⟨g,9,none⟩=some (.int .i64 x.m.q)∧w.cell? ⟨g,10,none⟩=some (.int .i64 x.m.n)∧w.cell? ⟨g,11,none⟩=some (.int .i64 x.m.t)∧w.cell? ⟨g,12,none⟩=some (.int .i64 x.m.i)∧w.cell? ⟨g,13,none⟩=some (.int .i64 x.m.y)∧w.cell? ⟨g,14,none⟩=some (.int .i64 x.m.z)∧w.cell? ⟨g,15,none⟩=some (.int .i64 x.m.v)∧w.cell? ⟨g,16,none⟩=some (.bool x.sw)∧w.cell? ⟨g,17,none⟩=some (.int .i64 x.sx)∧w.cell? ⟨g,18,none⟩=some (.int .i64 x.ex)∧w.cell? ⟨g,19,none⟩=some (.int .i64 x.c)∧w.cell? ⟨g,20,none⟩=some (.int .i64 x.d):=
 ⟨h.cell 0,h.cell 1,h.cell 2,h.cell 3,h.cell 4,h.cell 5,h.cell 6,h.cell 7,h.cell 8,h.cell 9,h.cell 10,h.cell 11,h.cell 12,h.cell 13,h.cell 14,h.cell 15,h.cell 16,h.cell 17,h.cell 18,h.cell 19,h.cell 20⟩
theorem hes_at{w:World}{B:Nat}{A:Option Addr}{E:List He}(h:Rd w B A (hrow E))(h0:0<E.length): ∃b o,A=some ⟨b,o,none⟩∧b<B∧ ∀i,i<E.length→H21 w b (o+i*21) (gH E i):=by
 obtain⟨b,o,hA,a,c⟩:=Rd.at h (by intro e;have h:=congrArg List.length e;rw[hrow_len]at h;simp at h;omega);refine⟨b,o,hA,a,fun i d=>?_⟩
 have g: ∀j,j<21→ ∀v,(hv (gH E i))[j]? =some v→w.cell? (α b (o+i*21+j))=some v:=fun j f v hv=>by
  rw[Nat.add_assoc];exact c _ _ (by rw[hrow_get E i j d f];exact hv)
 exact⟨g 0 (by decide) _ rfl,g 1 (by decide) _ rfl,g 2 (by decide) _ rfl,g 3 (by decide) _ rfl,g 4 (by decide) _ rfl,g 5 (by decide) _ rfl,g 6 (by decide) _ rfl,g 7 (by decide) _ rfl,g 8 (by decide) _ rfl,g 9 (by decide) _ rfl,g 10 (by decide) _ rfl,g 11 (by decide) _ rfl,g 12 (by decide) _ rfl,g 13 (by decide) _ rfl,g 14 (by decide) _ rfl,g 15 (by decide) _ rfl,g 16 (by decide) _ rfl,g 17 (by decide) _ rfl,g 18 (by decide) _ rfl,g 19 (by decide) _ rfl,g 20 (by decide) _ rfl⟩
theorem bst{a b c:World}(h:Below a.heap.size a b)(k:Below b.heap.size b c):Below a.heap.size a c:=h.trans (k.mono h.size)
theorem hrow_one(E:List He): ∀u∈hrow E,u.oneCell'=true:=by
 intro u a;simp only[hrow,List.mem_flatMap]at a;obtain⟨e,_,b⟩:=a;simp only[hv,mvs,List.cons_append,List.nil_append,List.mem_cons,List.not_mem_nil,or_false]at b;rcases b with rfl|rfl|rfl|rfl|rfl|rfl|rfl|rfl|rfl|rfl|rfl|rfl|rfl|rfl|rfl|rfl|rfl|rfl|rfl|rfl|rfl<;>rfl
end Hpa
namespace Hti
open Tre Ref3 Law3 Wpl Hpa
theorem time_out(w:World)(x:He):Below w.heap.size w (w.alloc (.cells (hA x) 81)):=β w _
theorem timely_any(x:He)(w:World):Calls Tryz.prog 25 #[.agg (hA x)] w (MadeB (timE x) w):=by
 have U:=κ (time_out w x);have K:=κ (Blk.fresh w 81 (hA x));unfold timE
 go_enter Tryz.func25,Tryz.ntmps25
 go_upto_region 1 with fail
 generalize w.alloc (.cells (hA x) 81)=a at U K ⊢;generalize w.heap.size=c at K ⊢;have d:=χ (K.o.cell 1);have f:=χ (K.o.cell 2);have g:=χ (K.o.cell 3);generalize x.b=h at *;generalize x.k=i at *;generalize x.e=j at *
 go_wp2_with fail
 all_goals
  go_ret;exact madeB_mk (by rw[Bool.eq_iff_iff];(try simp only[bne_iff_ne,ne_eq,bne_eq_false_iff_eq]at *);simp[timB]<;>omega) U.o
end Hti
namespace Hmp
open Go.Maps Go.MapKept
def Mk(w:World)(b n:Nat)(s:List Int):Prop:= ∃D:DataW Unit,w.ownsMap Tryz.prog 3 (plainElem Tryz.prog 4) b n D∧IsMap D∧ ∀k,D.atKey (.int .i64 k) (.lit (.bool false))= .lit (.bool (s.contains k))
theorem Mk.made(w:World):Mk (w.alloc (.map #[] 0)) w.heap.size 0 []:=⟨_,World.ownsMap_made w _ _ _,isMap_empty,fun _=>rfl⟩
theorem Mk.kept{w w':World}{b n:Nat}{s:List Int}{r:Option Nat}(h:Mk w b n s)(hg:w.grownBy w' r)(hne:some b≠r):Mk w' b n s:=
 let ⟨D,h1,h2,h3⟩:=h;⟨D,h1.kept hg hne,h2,h3⟩
theorem Mk.below{w w':World}{b n:Nat}{s:List Int}(h:Mk w b n s)(hb:Below w.heap.size w w'):Mk w' b n s:=
 h.kept (r:=none) ⟨hb.os,hb.tape,hb.output,hb.size,fun k a _=>hb.block k a⟩ (by simp)
theorem key_of(k:Int)(hk: -9223372036854775808≤k∧k≤9223372036854775807):keyOf Tryz.prog 3 (.int .i64 k)=some (.int .i64 k):=by
 have a:IntKind.i64.max=9223372036854775807:=rfl;have b:IntKind.i64.min= -9223372036854775808:=rfl;have c:(Lit.int .i64 k).wf=true:=by simp[Lit.wf,a,b];omega
 simp[keyOf,Tryz.underlying3,mapKey,c]
theorem Mk.look{w:World}{b n:Nat}{s:List Int}(h:Mk w b n s)(k:Int)(hk: -9223372036854775808≤k∧k≤9223372036854775807):(Instr.lookup 94 (.map (some b)) (.int .i64 k) false).run Tryz.prog w= .ok (.bool (s.contains k)) w:=by
 obtain⟨D,a,f,c⟩:=h;obtain⟨v,g,d,hv⟩:=a.lookup (int_keyed Tryz.underlying3) Tryz.underlying94 (z:= .bool false) rfl (plainElem_bool Tryz.underlying4 false) (key_of k hk);rw[c]at hv
 have e:v= .bool (s.contains k):=by
  cases v<;>simp[plainElem,Tryz.underlying4]at hv
  rw[hv.1];simp
 rw[d,e]
theorem Mk.put{w:World}{b n:Nat}{s:List Int}(h:Mk w b n s)(k:Int)(hk: -9223372036854775808≤k∧k≤9223372036854775807)(hn:n<maxLen): ∃w',(Instr.mapUpdate 94 (.map (some b)) (.int .i64 k) (.bool true)).run Tryz.prog w= .ok () w'∧Mk w' b (n+1) (k :: s)∧w.grownBy w' (some b):=by
 obtain⟨D,c,a,d⟩:=h;obtain⟨w',f,g,i⟩:=c.update (int_keyed Tryz.underlying3) Tryz.underlying94 hn (key_of k hk) (plainElem_bool Tryz.underlying4 true);refine⟨w',f,⟨_,g,a.put _ _,fun j=>?_⟩,i⟩;by_cases e:j=k
 ·subst e;rw[atKey_put_same a (by simp[WideAt.IsKeyLit])];simp
 ·rw[atKey_put_other (by intro q;injection q with _ q;exact e q),d];simp[e]
end Hmp
namespace Hws
open Wpl Hpa
section
variable {P:Program} {w w':World} {ops:Array Oper} {rest:List Oper} {o:Oper} {a:Act} {Q:Exit→Act→World→Prop}
theorem wpList_ld(p:Operand)(t:TypeId)(hop:o.op=Op.load t p)(hg:o.guard=none){q v:Value}(hp:a.eval p=q)(hr:(Instr.loadAt t q).run P w= .ok v w)(k:wpList P ops Q rest (a.put o.dst v) w):wpList P ops Q (o :: rest) a w:=by
 refine wpList_plain hg fun _ b=>?_
 unfold Oper.wp execOp;simp only[hop,hp,Sem.run_bind,Sem.run_pure,Result.andThen_ok,hr];exact b _ _ k
theorem wpList_lg(p:Operand)(t:TypeId)(hop:o.op=Op.load t p)(hw:Region.wanted o (yielded ops a.tmps)=true){q v:Value}(hp:a.eval p=q)(hr:(Instr.loadAt t q).run P w= .ok v w)(k:wpList P ops Q rest (a.put o.dst v) w):wpList P ops Q (o :: rest) a w:=by
 refine wpList_step fun _ b=>?_
 rw[if_pos hw];unfold Oper.wp execOp;simp only[hop,hp,Sem.run_bind,Sem.run_pure,Result.andThen_ok,hr];exact b _ _ k
theorem wpList_st(p x:Operand)(t:TypeId)(hop:o.op=Op.store t p x)(hg:o.guard=none){q v:Value}(hp:a.eval p=q)(hx:a.eval x=v)(hr:(Instr.storeAt t q v).run P w= .ok () w')(k:wpList P ops Q rest (a.put o.dst undef) w'):wpList P ops Q (o :: rest) a w:=by
 refine wpList_plain hg fun _ b=>?_
 unfold Oper.wp execOp;simp only[hop,hp,hx,Sem.run_bind,Sem.run_pure,Result.andThen_ok,hr];exact b _ _ k
end
theorem ld21{w:World}{b o:Nat}{x:He}(h:H21 w b o x):(Instr.loadAt 81 (.pointer (some ⟨b,o,none⟩))).run Tryz.prog w= .ok (.agg (hA x)) w:=by
 have e:=h.load;simp only[Instr.loadAt,Instr.sureAddr,Sem.run_bind,Sem.run_pure,Result.andThen,loadVar,loadCells,Tryz.isAgg81,Tryz.sizeOf81,if_true,e]
theorem h21_blk{w:World}{g:Nat}{te:TypeId}{x:He}(h:Blk w g te (hA x)):H21 w g 0 x:=⟨h.cell 0,h.cell 1,h.cell 2,h.cell 3,h.cell 4,h.cell 5,h.cell 6,h.cell 7,h.cell 8,h.cell 9,h.cell 10,h.cell 11,h.cell 12,h.cell 13,h.cell 14,h.cell 15,h.cell 16,h.cell 17,h.cell 18,h.cell 19,h.cell 20⟩
abbrev opA(x:He):Array Value:= #[.int .i64 x.m.k,.int .i64 x.m.a,.int .i64 x.m.s,.bool x.m.x,.int .i64 x.m.p,.int .i64 x.m.q,.int .i64 x.m.n,.int .i64 x.m.t,.int .i64 x.m.i,.int .i64 x.m.y,.int .i64 x.m.z,.int .i64 x.m.v,.bool x.sw,.int .i64 x.sx,.int .i64 x.ex]
theorem op15{w:World}{b o:Nat}{x:He}(h:H21 w b o x):(loadCellsFrom ⟨b,o+4,none⟩ 0 15 #[]).run Tryz.prog w= .ok (opA x) w:=by
 obtain⟨_,_,_,_,d,e,f,g,j,k,l,m,n,p,q,r,s,t,y,_,_⟩:=h;refine run_ld w ⟨b,o+4,none⟩ (opA x).toList 15 rfl fun i v c=>?_
 have z:((α b (o+4)):Addr).add i=(α b (o+4+i)):=by unfold Addr.add;split<;>simp_all
 rw[z]
 match i,c with
 |0,c=>cases c;exact d
 |1,c=>cases c;exact e
 |2,c=>cases c;exact f
 |3,c=>cases c;exact g
 |4,c=>cases c;exact j
 |5,c=>cases c;exact k
 |6,c=>cases c;exact l
 |7,c=>cases c;exact m
 |8,c=>cases c;exact n
 |9,c=>cases c;exact p
 |10,c=>cases c;exact q
 |11,c=>cases c;exact r
 |12,c=>cases c;exact s
 |13,c=>cases c;exact t
 |14,c=>cases c;exact y
 |i+15,c=>exact absurd c (by simp)
theorem ldOpM{w:World}{b o:Nat}{x:He}(h:H21 w b o x):(Instr.loadAt 79 (.pointer (some ⟨b,o+4,none⟩))).run Tryz.prog w= .ok (.agg (opA x)) w:=by
 simp only[Instr.loadAt,Instr.sureAddr,Sem.run_bind,Sem.run_pure,Result.andThen,loadVar,loadCells,Tryz.isAgg79,Tryz.sizeOf79,if_true,op15 h]
theorem st21(w:World)(x:He):(Instr.storeAt 81 (.pointer (some ⟨w.heap.size,0,none⟩)) (.agg (hA x))).run Tryz.prog (w.alloc (.cells (hA he0) 81))= .ok () (w.alloc (.cells (hA x) 81)):=
 run_storeAt_new w 81 (hA he0) (hA x) (by kernel_rfl) rfl (by simp[Value.oneCell'])
end Hws
namespace Hri
open Tre Ref3 Law3 Wpl Hpa Hmp Hti Hws
def WfH(E:List He):Prop:= ∀i,i<E.length→ -9223372036854775808≤(gH E i).k∧(gH E i).k≤9223372036854775807
theorem rgt_at{n:Int}{E:List He}{i:Nat}(h:i<E.length)(s:List Int):rgt n (E.drop i) s=(okE n (gH E i)&&(!(s.contains (gH E i).k)&&rgt n (E.drop (i+1)) (mkS (gH E i) s))):=by
 rw[List.drop_eq_getElem_cons h];show(okE n E[i]&&_)=_;have e:gH E i=E[i]:=by simp[gH,h]
 rw[e]
theorem seenM_snoc(x:He): ∀(E:List He) (s:List Int),seenM (E++[x]) s=mkS x (seenM E s)
 |[],_=>rfl
 |y :: t,s=>seenM_snoc x t (mkS y s)
theorem rgt_no{n:Int}{x:He}{b:Bool}(h:okE n x=false):(okE n x&&b)=false:=by rw[h];rfl
theorem right_any(n:Int)(E:List He)(A:Option Addr)(c:Nat)(w:World)(hl:Hid (Rd w w.heap.size A (hrow E)))(hw:Hid (WfH E))(hm:E.length≤1000):Calls Tryz.prog 9 #[.int .i64 n,.slice A E.length c] w (MadeB (rightF n E) w):=by
 have R:=@run_makeMap Tryz.prog;have h6: ¬(65536<(E.length:Int)):=by omega
 by_cases hn:1≤n∧n≤8
 ·obtain⟨n1,n2⟩:=hn;have d:Hid (rightF n E=rgt n E []):=κ (by unfold rightF;rw[decide_eq_true n1,decide_eq_true n2,decide_eq_true (by omega)];rfl)
  go_enter Tryz.func9,Tryz.ntmps9
  go_wp2_with fail
  clear R h6;have O:=κ (Mk.made w);have S:=κ (β w (.map #[] 0));generalize w.alloc (.map #[] 0)=w0 at O S ⊢;generalize T:w.heap.size=P at O ⊢;have hg:Hid (w.heap.size≤P):=κ (by omega);clear T
  go_loopg [22] E.length (fun g V Z=> ∃(i:Nat),i+g=E.length∧V= ι i∧Hid (rgt n (E.drop i) (seenM (E.take i) [])=rgt n E [])∧Hid (Mk Z P i (seenM (E.take i) []))∧Hid (Below w.heap.size w Z))
  case atStart=>exact⟨0,by omega,rfl,κ rfl,O,S⟩
  case round=>
   clear O S;obtain⟨i,aa,rfl,h,M,U⟩:=hrel
   rename World=>r
   by_cases hlt:i<E.length
   ·obtain⟨Q,rfl⟩: ∃Q,gk=Q+1:=⟨gk-1,by omega⟩;have s:((i:Nat):Int)<((E.length:Nat):Int):=by omega
    obtain⟨b,o,rfl,hb,hc⟩:=hes_at (Rd.below' hl.o U.o U.o.size) (by omega);have f:=hc i hlt;have t:=κ (hw.o i hlt);rw[rgt_at hlt]at h;have j:Hid (E.take (i+1)=E.take i++[gH E i]):=κ (take_h hlt);have q:Hid (mkS (gH E i) (seenM (E.take i) [])=seenM (E.take (i+1)) []):=κ (by rw[j.o,seenM_snoc]);rw[q.o]at h;clear hc hb j;generalize gH E i=x at f h t q;have v:=ld21 f
    go_upto_region 7 with(first|(refine wpList_ld _ _ rfl rfl rfl v ?_)|(refine wpList_st _ _ _ rfl rfl rfl rfl (st21 _ _) ?_))
    clear v f;have K:=κ (Blk.fresh r 81 (hA x));have y:=κ (bst U.o (β r (.cells (hA x) 81)));have W:=κ (M.o.below (β r (.cells (hA x) 81)));clear M U;generalize r.alloc (.cells (hA x) 81)=w1 at K y W ⊢;generalize r.heap.size=ge at K ⊢;have k0:=χ (K.o.cell 0);have v:=ld21 (h21_blk K.o);by_cases h1:0≤x.w
    ·by_cases h2:x.w<n
     ·have z: ¬(x.w<0):=by omega
      have X: ¬(n≤x.w):=by omega
      go_wp2_with (refine wpList_lg _ _ rfl rfl rfl v ?_)
      refine(timely_any x w1).mono ?_;rintro e w2 ⟨rfl,l⟩;have K2:=κ (K.o.below' l);have C:=κ (bst y.o l);have F:=κ (W.o.below l);clear v k0 K y W l;have p:=F.o.look x.k t.o;have kk:=χ (K2.o.cell 2);by_cases j:timE x=true
      ·rw[j];have a:okE n x=true:=by unfold okE;rw[j,decide_eq_true h1,decide_eq_true h2];rfl
       by_cases m:(seenM (E.take i) []).contains x.k=true
       ·rw[m]at p
        go_wp2_with fail
        go_ret;exact madeB_mk (d.o.trans (h.o.symm.trans (by rw[m];simp))) C.o
       ·have m:=Bool.eq_false_iff.2 m;rw[m]at p;have G:Hid (rgt n (E.drop (i+1)) (seenM (E.take (i+1)) [])=rgt n E []):=κ (by rw[←h.o,a,m];rfl);by_cases h0:x.k=0
        ·have H:Hid (seenM (E.take i) []=seenM (E.take (i+1)) []):=κ (by rw[←q.o];unfold mkS;rw[if_pos h0]);have Y:Hid (Mk w2 P (i+1) (seenM (E.take (i+1)) [])):=κ (by rw[←H.o];exact let ⟨D,a1,a2,a3⟩:=F.o;⟨D,a1.mono (Nat.le_succ _),a2,a3⟩);rw[h0]at p kk;clear a m h q H F t j
         go_wp2_with fail
         go_roundg Q
         case measure=>omega
         case rel=>exact⟨i+1,by omega,by go_num,G,Y,C⟩
        ·have I:i<maxLen:=by unfold maxLen;omega
         obtain⟨w3,ab,J,L⟩:=F.o.put x.k t.o I;have Y:Hid (Mk w3 P (i+1) (seenM (E.take (i+1)) [])):=κ (by rw[←q.o];unfold mkS;rw[if_neg h0];exact J);have U3:Hid (Below w.heap.size w w3):=κ (C.o.grown L C.o.size (fun k hk=>by injection hk with hk;have:=hg.o;omega));clear a m h q F t j L J I
         go_wp2_with fail
         go_roundg Q
         case measure=>omega
         case rel=>exact⟨i+1,by omega,by go_num,G,Y,U3⟩
      ·have j:=Bool.eq_false_iff.2 j;rw[j];have a:okE n x=false:=by unfold okE;rw[j];simp
       go_wp2_with fail
       go_ret;exact madeB_mk (d.o.trans (h.o.symm.trans (rgt_no a))) C.o
     ·have z: ¬(x.w<0):=by omega
      have X:n≤x.w:=by omega
      have a:okE n x=false:=by unfold okE;rw[decide_eq_false h2];simp
      go_wp2_with fail
      go_ret;exact madeB_mk (d.o.trans (h.o.symm.trans (rgt_no a))) y.o
    ·have z:x.w<0:=by omega
     have a:okE n x=false:=by unfold okE;rw[decide_eq_false h1];simp
     go_wp2_with fail
     go_ret;exact madeB_mk (d.o.trans (h.o.symm.trans (rgt_no a))) y.o
   ·have s: ¬((i:Nat):Int)<((E.length:Nat):Int):=by omega
    obtain rfl:i=E.length:=by omega
    go_wp2_with fail
    go_ret;exact madeB_mk (d.o.trans (h.o.symm.trans (by rw[List.drop_length];rfl))) U.o
 ·have d:Hid (rightF n E=false):=κ (by
   unfold rightF
   by_cases h1:1≤n
   ·rw[decide_eq_true h1,decide_eq_false (by omega)];rfl
   ·rw[decide_eq_false h1];rfl)
  go_enter Tryz.func9,Tryz.ntmps9
  go_wp2_with fail
  all_goals
   first
    |(exfalso;omega)
    |(go_ret;exact madeB_mk d.o ψ)
end Hri
end Go.Proofs.YtcccdikhfgpamaaGreat
