/- Texts side by side. -/
import Derived.Test.YtcccdikhfgpamaaGreatUfag
import Derived.Test.YtcccdikhfgpamaaGreatUfan
set_option linter.unusedVariables false
set_option linter.unusedSimpArgs false
set_option maxRecDepth 100000
set_option maxHeartbeats 16000000
namespace Go.Proofs.YtcccdikhfgpamaaGreat
open Kap Go.ChangeShapes Go.WideShapes Go.ChangeAt Go.RowKit Mem Tre Ref3 Law3 CrdB CrdC
namespace Fr4
open Abv Fix3 Crd Cpl Own Res Rr4 Sm4
variable {xs:List Value} {base n size:Nat} {e:TypeId} {v:Value} {w:World}
theorem step_app1G{P:Program}{ops:Array Oper}{o:Oper}{a:Act}{K:Act→World→Prop}{Q:Exit→Act→World→Prop}{E:Prop}{te:TypeId}{cs:Array Value}(hown:Hid (w.ownsRow base e size v n xs))(hgd:o.guard=none)(s x:Operand)(t:TypeId)
  (ho:o.op= .call {callee:= .builtin .append,args:= #[s,x],argTypes:= #[t,t]})
  (i:TypeInfo)(z:Value)(bytes:Nat)(ht:P.underlying t=some (.slice e))(hi:P.info? e=some i)(hz:i.zero=some z)
  (hsize:i.size=size)(hby:i.bytes=bytes)(hzs:z.cells.size=size)(hsz:0<size)
  (hs:a.eval s=v){gb:Nat}(hx:a.eval x= .slice (some ⟨gb,0,none⟩) 1 1)(hgb:gb=w.heap.size)(news:List Value)(hn:cs.toList=news)(hl:news.length=size)(h1: ∀u∈news,u.oneCell'=true)
  (h63:n+1≤maxLen)(hbytes:(n+1)*bytes≤140737488355328)(hbase:base≤w.heap.size)
  (h: ∀A' c' w',Hid (w'.ownsRow base e size (.slice A' (n+1) c') (n+1) (xs++news))→(w.alloc (.cells cs te)).grownBy w' v.ownBlock→K (a.put o.dst (.slice A' (n+1) c')) w'):
  if Region.wanted o (yielded ops a.tmps)=true then Oper.wp P o a (w.alloc (.cells cs te)) K Q else E:=by
 subst hgb;have c:Region.wanted o (yielded ops a.tmps)=true:=by simp[Region.wanted,hgd]
 rw[if_pos c];refine wp_append_own _ s x t ho base e i z size bytes ht hi hz hsize hby hzs hsz v n xs hs (World.ownsRow.alloc hown.o _) ⟨w.heap.size,0,none⟩ 1 1 news hx (by omega) (one_cells hn) h1 h63 hbytes (by simp;omega) ?_;intro f w' b d _;obtain⟨A',c',rfl,_⟩:=own_form b;exact h A' c' w' b d
theorem own_row_ne(h:w.ownsRow base e size v n xs){g:Nat}(hg:g<base):some g≠v.ownBlock:=by
 intro e;have:=World.ownsRow.lt h g e.symm;omega
end Fr4
namespace St7
open Fix3 Opn Bnd Flo Cfg Rr4 Fr4
attribute [local go_sem] run_store_float
variable {xs:List Value} {base g n size:Nat} {te:TypeId} {a b c d e f h v v0 v1 v2 v3 v4 v5 v6:Value} {W w:World}
theorem wpList_app1G{P:Program}{ops:Array Oper}{rest:List Oper}{o:Oper}{a:Act}{Q:Exit→Act→World→Prop}{e:TypeId}{cs:Array Value}(hown:Hid (w.ownsRow base e size v n xs))(hgd:o.guard=none)(s x:Operand)(t:TypeId)
  (ho:o.op= .call {callee:= .builtin .append,args:= #[s,x],argTypes:= #[t,t]})
  (i:TypeInfo)(z:Value)(bytes:Nat)(ht:P.underlying t=some (.slice e))(hi:P.info? e=some i)(hz:i.zero=some z)
  (hsize:i.size=size)(hby:i.bytes=bytes)(hzs:z.cells.size=size)(hsz:0<size)
  (hs:a.eval s=v){gb:Nat}(hx:a.eval x= .slice (some ⟨gb,0,none⟩) 1 1)(hgb:gb=w.heap.size)(news:List Value)(hn:cs.toList=news)(hl:news.length=size)(h1: ∀u∈news,u.oneCell'=true)
  (h63:n+1≤maxLen)(hbytes:(n+1)*bytes≤140737488355328)(hbase:base≤w.heap.size)
  (h: ∀A' c' w',Hid (w'.ownsRow base e size (.slice A' (n+1) c') (n+1) (xs++news))→(w.alloc (.cells cs te)).grownBy w' v.ownBlock→wpList P ops Q rest (a.put o.dst (.slice A' (n+1) c')) w'):
  wpList P ops Q (o :: rest) a (w.alloc (.cells cs te)):=by
 subst hgb;refine wpList_append_own _ hgd s x t ho base e i z size bytes ht hi hz hsize hby hzs hsz v n xs hs (World.ownsRow.alloc hown.o _) ⟨w.heap.size,0,none⟩ 1 1 news hx (by omega) (one_cells hn) h1 h63 hbytes (by simp;omega) ?_;intro l w' j k _;obtain⟨A',c',rfl,_⟩:=own_form j;exact h A' c' w' j k
def st7(W:World)(g:Nat)(a b c d e f h:Value):World:=
 ((((((W.setCell ⟨g,0,none⟩ a).setCell ⟨g,1,none⟩ b).setCell ⟨g,2,none⟩ c).setCell ⟨g,3,none⟩ d).setCell ⟨g,4,none⟩ e).setCell ⟨g,5,none⟩ f).setCell ⟨g,6,none⟩ h
theorem st7_blk(hk:Blk W g te #[v0,v1,v2,v3,v4,v5,v6]):Blk (st7 W g a b c d e f h) g te #[a,b,c,d,e,f,h]:=by
 have i:=ξ (blk_set hk 0 a);have j:=ξ (blk_set i 1 b);have k:=ξ (blk_set j 2 c);have l:=ξ (blk_set k 3 d);have m:=ξ (blk_set l 4 e);have o:=ξ (blk_set m 5 f);have p:=ξ (blk_set o 6 h);exact p
theorem st7_below{B:Nat}{w0:World}(hb:Below B w0 W)(hg:B≤g):Below B w0 (st7 W g a b c d e f h):=
 ((((((hb.setCell (p:=⟨g,0,none⟩) hg a).setCell (p:=⟨g,1,none⟩) hg b).setCell (p:=⟨g,2,none⟩) hg c).setCell (p:=⟨g,3,none⟩) hg d).setCell (p:=⟨g,4,none⟩) hg e).setCell (p:=⟨g,5,none⟩) hg f).setCell (p:=⟨g,6,none⟩) hg h
theorem st7_own{e:TypeId}{e':Value}(ho:W.ownsRow base e size v n xs)(hg:g<base):(st7 W g a b c d e' f h).ownsRow base e size v n xs:=
 ownsRow_setCell_below (ownsRow_setCell_below (ownsRow_setCell_below (ownsRow_setCell_below (ownsRow_setCell_below (ownsRow_setCell_below (ownsRow_setCell_below ho (a:=⟨g,0,none⟩) hg a) (a:=⟨g,1,none⟩) hg b) (a:=⟨g,2,none⟩) hg c) (a:=⟨g,3,none⟩) hg d) (a:=⟨g,4,none⟩) hg e') (a:=⟨g,5,none⟩) hg f) (a:=⟨g,6,none⟩) hg h
theorem st7_cells(hk:Blk W g te #[v0,v1,v2,v3,v4,v5,v6]):
  (st7 W g a b c d e f h).cell? ⟨g,0,none⟩=some a∧(st7 W g a b c d e f h).cell? ⟨g,1,none⟩=some b∧(st7 W g a b c d e f h).cell? ⟨g,2,none⟩=some c∧(st7 W g a b c d e f h).cell? ⟨g,3,none⟩=some d∧
  (st7 W g a b c d e f h).cell? ⟨g,4,none⟩=some e∧(st7 W g a b c d e f h).cell? ⟨g,5,none⟩=some f∧(st7 W g a b c d e f h).cell? ⟨g,6,none⟩=some h:=
 have k:=st7_blk (a:=a) (b:=b) (c:=c) (d:=d) (e:=e) (f:=f) (h:=h) hk
 ⟨k.cell 0,k.cell 1,k.cell 2,k.cell 3,k.cell 4,k.cell 5,k.cell 6⟩
def MadeCf(sh wi ra ta:Int)(nd:List (Int×Int))(ac:List Int)(sy:List (Int×Int×Int×Nat))(w:World)(e:Ending)(w':World):Prop:=
 ∃A B C c d f,e= .returned (.agg #[.int .i64 sh,.int .i64 wi,.int .i64 ra,.int .i64 ta,.slice A nd.length c,.slice B ac.length d,.slice C sy.length f])∧Nds w' w'.heap.size A nd∧Ris w' w'.heap.size B ac∧Smb w' w'.heap.size C sy∧Below w.heap.size w w'
theorem madeCf_mk{sh wi ra ta:Int}{nd:List (Int×Int)}{ac:List Int}{sy:List (Int×Int×Int×Nat)}{A B C:Option Addr}{m k c d f:Nat}{w':World}(h1:n=nd.length)(h2:m=ac.length)(h3:k=sy.length)
  (hn:Nds w' w'.heap.size A nd)(ha:Ris w' w'.heap.size B ac)(hs:Smb w' w'.heap.size C sy)(hb:Below w.heap.size w w'):
  MadeCf sh wi ra ta nd ac sy w (.returned (.agg #[.int .i64 sh,.int .i64 wi,.int .i64 ra,.int .i64 ta,.slice A n c,.slice B m d,.slice C k f])) w':=by
 subst h1;subst h2;subst h3;exact⟨A,B,C,c,d,f,rfl,hn,ha,hs,hb⟩
theorem sym_info:(Tryz.prog.info? 86).map (fun i=>(i.zero,i.size,i.bytes))=some (some (.agg #[.int .i64 0,.int .i64 0,.int .i64 0,.float .f64 0]),4,32):=by kernel_rfl
end St7
namespace Mdc
open Abv Fix3 Cfg Crd Rr4 Bkp Bks Bcl Stk Apt Bko
theorem smbs_one(l:List (Int×Int×Int×Nat)): ∀u∈smbs l,u.oneCell'=true:=by
 intro u a;simp only[smbs,List.mem_flatMap]at a;obtain⟨e,_,b⟩:=a;simp only[syV,List.mem_cons,List.not_mem_nil,or_false]at b;rcases b with rfl|rfl|rfl|rfl<;>rfl
theorem infoD:(Tryz.prog.info? 151).map (fun i=>(i.zero,i.size,i.bytes))=some (some (.agg #[.int .i64 0,.int .i64 0]),2,16):=by kernel_rfl
theorem cloneD(A:Option Addr)(n c:Nat)(l:List (Int×Int))(w:World)(hn:Hid (n=l.length))(hl:Hid (Rd w w.heap.size A (nds l)))(hmax:(n:Int)≤1000000):
  Calls Tryz.prog 113 #[.slice A n c] w (MadeOw 151 2 n (nds l) w):=by
 obtain⟨s,t,g,i,j⟩:=info_parts infoD;have z:=fun(W:World) (n c:Nat)=>Lib.run_eql_slice_nil (P:=Tryz.prog) W 40 151 A n c 0 0 Tryz.underlying40
 have a:Hid ((nds l).length=n*2):=by show _=_;rw[hn.o];exact nds_len l
 cases A with
 |none=>
  have d:nds l=[]:=by
   rcases hl.o with h|⟨b,o,h,_⟩
   ·exact h
   ·cases h
  have k:n=0:=by have:=a.o;rw[d]at this;simp at this;omega
  have v:=κ d;clear hn a d;subst k
  go_enter Tryz.func113,Tryz.ntmps113
  go_wp2_with fail
  go_ret;rw[v.o];exact⟨none,0,rfl,World.ownsRow_nil _ _ _ _,Below.refl _ _⟩
 |some ad=>
  have m:Hid (Rd (w.alloc (.cells #[] 151)) w.heap.size (some ad) (nds l)):=Rd.below hl.o (ψ.alloc τ _);have p:Hid ((w.alloc (.cells #[] 151)).ownsRow w.heap.size 151 2 (.slice (some (α w.heap.size 0)) 0 0) 0 []):=own_empty (Blk.fresh w _ _) τ;have q:=β w (.cells #[] 151)
  go_enter Tryz.func113,Tryz.ntmps113
  go_wp2_with (at_builtin;go_loud (refine wpList_appR (nm:=n) p q m (by simp) rfl _ _ _ rfl s (.agg #[.int .i64 0,.int .i64 0]) 16 Tryz.underlying40 t g i j rfl (by decide) rfl rfl a.o (nds_one l) (by unfold maxLen;omega) (by omega) τ (by simp) (by simp) ?_);intro x y C e f r)
  go_ret;exact⟨x,y,rfl,e,f⟩
theorem infoM:(Tryz.prog.info? 3).map (fun i=>(i.zero,i.size,i.bytes))=some (some (.int .i64 0),1,8):=by kernel_rfl
theorem cloneM(A:Option Addr)(n c:Nat)(l:List Int)(w:World)(hn:Hid (n=l.length))(hl:Hid (Rd w w.heap.size A (ints l)))(hmax:(n:Int)≤1000000):
  Calls Tryz.prog 114 #[.slice A n c] w (MadeOw 3 1 n (ints l) w):=by
 obtain⟨s,t,g,i,j⟩:=info_parts infoM;have z:=fun(W:World) (n c:Nat)=>Lib.run_eql_slice_nil (P:=Tryz.prog) W 23 3 A n c 0 0 Tryz.underlying23
 have a:Hid ((ints l).length=n*1):=by show _=_;rw[hn.o];exact ints_len1 l
 cases A with
 |none=>
  have d:ints l=[]:=by
   rcases hl.o with h|⟨b,o,h,_⟩
   ·exact h
   ·cases h
  have k:n=0:=by have:=a.o;rw[d]at this;simp at this;omega
  have v:=κ d;clear hn a d;subst k
  go_enter Tryz.func114,Tryz.ntmps114
  go_wp2_with fail
  go_ret;rw[v.o];exact⟨none,0,rfl,World.ownsRow_nil _ _ _ _,Below.refl _ _⟩
 |some ad=>
  have m:Hid (Rd (w.alloc (.cells #[] 3)) w.heap.size (some ad) (ints l)):=Rd.below hl.o (ψ.alloc τ _);have p:Hid ((w.alloc (.cells #[] 3)).ownsRow w.heap.size 3 1 (.slice (some (α w.heap.size 0)) 0 0) 0 []):=own_empty (Blk.fresh w _ _) τ;have q:=β w (.cells #[] 3)
  go_enter Tryz.func114,Tryz.ntmps114
  go_wp2_with (at_builtin;go_loud (refine wpList_appR (nm:=n) p q m (by simp) rfl _ _ _ rfl s (.int .i64 0) 8 Tryz.underlying23 t g i j rfl (by decide) rfl rfl a.o (ints_one l) (by unfold maxLen;omega) (by omega) τ (by simp) (by simp) ?_);intro x y C e f r)
  go_ret;exact⟨x,y,rfl,e,f⟩
theorem infoY:(Tryz.prog.info? 103).map (fun i=>(i.zero,i.size,i.bytes))=some (some (.agg #[.int .i64 0,.int .i64 0,.int .i64 0,.float .f64 0]),4,32):=by kernel_rfl
theorem cloneY(A:Option Addr)(n c:Nat)(l:List (Int×Int×Int×Nat))(w:World)(hn:Hid (n=l.length))(hl:Hid (Rd w w.heap.size A (smbs l)))(hmax:(n:Int)≤1000000):
  Calls Tryz.prog 115 #[.slice A n c] w (MadeOw 103 4 n (smbs l) w):=by
 obtain⟨s,t,g,i,j⟩:=info_parts infoY;have z:=fun(W:World) (n c:Nat)=>Lib.run_eql_slice_nil (P:=Tryz.prog) W 41 103 A n c 0 0 Tryz.underlying41
 have a:Hid ((smbs l).length=n*4):=by show _=_;rw[hn.o];exact smbs_len l
 cases A with
 |none=>
  have d:smbs l=[]:=by
   rcases hl.o with h|⟨b,o,h,_⟩
   ·exact h
   ·cases h
  have k:n=0:=by have:=a.o;rw[d]at this;simp at this;omega
  have v:=κ d;clear hn a d;subst k
  go_enter Tryz.func115,Tryz.ntmps115
  go_wp2_with fail
  go_ret;rw[v.o];exact⟨none,0,rfl,World.ownsRow_nil _ _ _ _,Below.refl _ _⟩
 |some ad=>
  have m:Hid (Rd (w.alloc (.cells #[] 103)) w.heap.size (some ad) (smbs l)):=Rd.below hl.o (ψ.alloc τ _);have p:Hid ((w.alloc (.cells #[] 103)).ownsRow w.heap.size 103 4 (.slice (some (α w.heap.size 0)) 0 0) 0 []):=own_empty (Blk.fresh w _ _) τ;have q:=β w (.cells #[] 103)
  go_enter Tryz.func115,Tryz.ntmps115
  go_wp2_with (at_builtin;go_loud (refine wpList_appR (nm:=n) p q m (by simp) rfl _ _ _ rfl s (.agg #[.int .i64 0,.int .i64 0,.int .i64 0,.float .f64 0]) 32 Tryz.underlying41 t g i j rfl (by decide) rfl rfl a.o (smbs_one l) (by unfold maxLen;omega) (by omega) τ (by simp) (by simp) ?_);intro x y C e f r)
  go_ret;exact⟨x,y,rfl,e,f⟩
theorem own_st7{w:World}{base:Nat}{e te:TypeId}{size n g:Nat}{v:Value}{xs:List Value}{u0 u1 u2 u3 u4 u5 u6 v0 v1 v2 v3 v4 v5 v6:Value}(h:w.ownsRow base e size v n xs)(hk:Blk w g te #[u0,u1,u2,u3,u4,u5,u6])(hne:e≠te):
  (st7 w g v0 v1 v2 v3 v4 v5 v6).ownsRow base e size v n xs:=by
 have a:=ξ (blk_st hk 0 v0);have b:=ξ (blk_st a 1 v1);have c:=ξ (blk_st b 2 v2);have d:=ξ (blk_st c 3 v3);have f:=ξ (blk_st d 4 v4);have i:=ξ (blk_st f 5 v5);exact(own_st (own_st (own_st (own_st (own_st (own_st (own_st h hk hne 0 v0) a hne 1 v1) b hne 2 v2) c hne 3 v3) d hne 4 v4) f hne 5 v5) i hne 6 v6)
def MadeCo(sh wi ra ta:Int)(nl al sl:Nat)(nd:List (Int×Int))(ac:List Int)(sy:List (Int×Int×Int×Nat))(w:World)(e:Ending)(w':World):Prop:=
 ∃A B C c d f,e= .returned (.agg #[.int .i64 sh,.int .i64 wi,.int .i64 ra,.int .i64 ta,.slice A nl c,.slice B al d,.slice C sl f])∧Nds w' w'.heap.size A nd∧Ris w' w'.heap.size B ac∧Smb w' w'.heap.size C sy∧(∀a,A=some a→w.heap.size≤a.block)∧(∀a,B=some a→w.heap.size≤a.block)∧(∀a,C=some a→w.heap.size≤a.block)∧Below w.heap.size w w'
theorem owncfg_any(sh wi ra ta:Int)(A B C:Option Addr)(nl al sl c d f:Nat)(nd:List (Int×Int))(ac:List Int)(sy:List (Int×Int×Int×Nat))(w:World)(h1:Hid (nl=nd.length))(h2:Hid (al=ac.length))(h3:Hid (sl=sy.length))
  (hn:Hid (Nds w w.heap.size A nd))(ha:Hid (Ris w w.heap.size B ac))(hs:Hid (Smb w w.heap.size C sy))(m1:nl≤100000)(m2:al≤100000)(m3:sl≤100000):
  Calls Tryz.prog 80 #[.agg #[.int .i64 sh,.int .i64 wi,.int .i64 ra,.int .i64 ta,.slice A nl c,.slice B al d,.slice C sl f]] w (MadeCo sh wi ra ta nl al sl nd ac sy w):=by
 have G:=κ (γ w (.cells (vC sh wi ra ta A nl c B al d C sl f) 43) (.cells (vC 0 0 0 0 none 0 0 none 0 0 none 0 0) 43));have K0:=κ ((Blk.fresh w 43 (vC sh wi ra ta A nl c B al d C sl f)).alloc (.cells (vC 0 0 0 0 none 0 0 none 0 0 none 0 0) 43));have R0:=κ (δ (w.alloc (.cells (vC sh wi ra ta A nl c B al d C sl f) 43)) 43 (vC 0 0 0 0 none 0 0 none 0 0 none 0 0) (w.heap.size+1))
 go_enter Tryz.func80,Tryz.ntmps80
 go_upto_region 1 with fail
 generalize ((w.alloc (.cells (vC sh wi ra ta A nl c B al d C sl f) 43)).alloc (.cells (vC 0 0 0 0 none 0 0 none 0 0 none 0 0) 43))=w0 at G K0 R0 ⊢;obtain⟨gB,x⟩:=ν w.heap.size;obtain⟨r,y⟩:=ν (w.heap.size+1);have z:Hid (r≠gB):=by show _≠_;omega
 have E:Hid (w.heap.size≤gB):=by show _≤_;omega
 have aa:Hid (w.heap.size≤r):=by show _≤_;omega
 have K1:=κ (ζ x K0.o);have R1:=κ (ζ y R0.o);simp only[←y];simp only[←x];clear x y K0 R0;obtain⟨H,I,J,K,L,O,P⟩:=q7_of K1.o
 go_wp2_with fail
 refine(cloneD A nl c nd _ h1 (Rd.below' hn.o G.o G.o.size) (by omega)).mono ?_;rintro e w1 ⟨i,j,rfl,b,a⟩;have g:=κ (Blk.below' K1.o a);have s:=κ (Blk.below' R1.o a);obtain⟨x0,x1,x2,x3,x4,x5,x6,Q,o,R,S,T,U,V⟩:=z7_of g.o;have K2:=κ (ξ (blk_st g.o 4 (.slice i nl j)));have R2:Hid (Blk (w1.setCell (α gB 4) (.slice i nl j)) r 43 (vC 0 0 0 0 none 0 0 none 0 0 none 0 0)):=far_st s.o z.o _;have W:Hid (Below w.heap.size w (w1.setCell (α gB 4) (.slice i nl j))):=(below_step G.o a).setCell (p:=(α gB 4)) E.o _;have q:Hid (((w1.setCell (α gB 4) (.slice i nl j))).ownsRow w.heap.size 151 2 (.slice i nl j) nl (nds nd)):=own_st (own_mono b G.o.size) g.o (by decide) 4 _
 go_upto_region 2 with fail
 clear H I J K L O P x0 x1 x2 x3 x4 x5 x6 Q o R S T U V g s b a K1 R1 G;generalize (w1.setCell (α gB 4) (.slice i nl j))=w2 at K2 R2 W q ⊢;obtain⟨H,I,J,K,L,O,P⟩:=q7_of K2.o
 go_wp2_with fail
 refine(cloneM B al d ac _ h2 (Rd.below' ha.o W.o W.o.size) (by omega)).mono ?_;rintro e w3 ⟨k,l,rfl,b,a⟩;have g:=κ (Blk.below' K2.o a);have s:=κ (Blk.below' R2.o a);obtain⟨x0,x1,x2,x3,x4,x5,x6,Q,o,R,S,T,U,V⟩:=z7_of g.o;have K3:=κ (ξ (blk_st g.o 5 (.slice k al l)));have R3:Hid (Blk (w3.setCell (α gB 5) (.slice k al l)) r 43 (vC 0 0 0 0 none 0 0 none 0 0 none 0 0)):=far_st s.o z.o _;have X:Hid (Below w.heap.size w (w3.setCell (α gB 5) (.slice k al l))):=(below_step W.o a).setCell (p:=(α gB 5)) E.o _;have Y:Hid (((w3.setCell (α gB 5) (.slice k al l))).ownsRow w.heap.size 3 1 (.slice k al l) al (ints ac)):=own_st (own_mono b W.o.size) g.o (by decide) 5 _;have h:Hid (((w3.setCell (α gB 5) (.slice k al l))).ownsRow w.heap.size 151 2 (.slice i nl j) nl (nds nd)):=own_st (own_below q a) g.o (by decide) 5 _
 go_upto_region 3 with fail
 clear H I J K L O P x0 x1 x2 x3 x4 x5 x6 Q o R S T U V g s b a K2 R2 W q;generalize (w3.setCell (α gB 5) (.slice k al l))=w4 at K3 R3 X Y h ⊢;have q:=h;clear h;obtain⟨H,I,J,K,L,O,P⟩:=q7_of K3.o
 go_wp2_with fail
 refine(cloneY C sl f sy _ h3 (Rd.below' hs.o X.o X.o.size) (by omega)).mono ?_;rintro e Z ⟨m,n,rfl,b,a⟩;have g:=κ (Blk.below' K3.o a);have s:=κ (Blk.below' R3.o a);obtain⟨x0,x1,x2,x3,x4,x5,x6,Q,o,R,S,T,U,V⟩:=z7_of g.o;have K4:=κ (ξ (blk_st g.o 6 (.slice m sl n)));have R4:Hid (Blk (Z.setCell (α gB 6) (.slice m sl n)) r 43 (vC 0 0 0 0 none 0 0 none 0 0 none 0 0)):=far_st s.o z.o _;have b6:Hid (Below w.heap.size w (Z.setCell (α gB 6) (.slice m sl n))):=(below_step X.o a).setCell (p:=(α gB 6)) E.o _;have n3:Hid (((Z.setCell (α gB 6) (.slice m sl n))).ownsRow w.heap.size 103 4 (.slice m sl n) sl (smbs sy)):=own_st (own_mono b X.o.size) g.o (by decide) 6 _;have h:Hid (((Z.setCell (α gB 6) (.slice m sl n))).ownsRow w.heap.size 151 2 (.slice i nl j) nl (nds nd)):=own_st (own_below q a) g.o (by decide) 6 _;have F:Hid (((Z.setCell (α gB 6) (.slice m sl n))).ownsRow w.heap.size 3 1 (.slice k al l) al (ints ac)):=own_st (own_below Y a) g.o (by decide) 6 _
 go_upto_region 4 with fail
 clear H I J K L O P x0 x1 x2 x3 x4 x5 x6 Q o R S T U V g s b a K3 R3 X q Y;generalize (Z.setCell (α gB 6) (.slice m sl n))=w6 at K4 R4 b6 n3 h F ⊢;have q:=h;clear h;have Y:=F;clear F;have F3:Blk (st7 w6 r (ι sh) (ι wi) (ι ra) (ι ta) (.slice i nl j) (.slice k al l) (.slice m sl n)) r 43 (vC sh wi ra ta i nl j k al l m sl n):=st7_blk R4.o
 have t:MadeCo sh wi ra ta nl al sl nd ac sy w (.returned (.agg (vC sh wi ra ta i nl j k al l m sl n))) (st7 w6 r (ι sh) (ι wi) (ι ra) (ι ta) (.slice i nl j) (.slice k al l) (.slice m sl n)):=
  ⟨i,k,m,j,l,n,rfl,Rd.of_own (own_st7 q.o R4.o (by decide)),Rd.of_own (own_st7 Y.o R4.o (by decide)),Rd.of_own (own_st7 n3.o R4.o (by decide)),own_fresh q.o,own_fresh Y.o,own_fresh n3.o,st7_below b6.o aa.o⟩
 have HF:=κ t;clear t;obtain⟨H,I,J,K,L,O,P⟩:=q7_of K4.o;obtain⟨z0,z1,z2,z3,z4,z5,z6,Q,o,R,S,T,U,V⟩:=z7_of R4.o
 go_wp2_with fail
 obtain⟨e0,e1,e2,e3,e4,e5,e6⟩:=q7_of F3;clear F3;unfold st7 at e0 e1 e2 e3 e4 e5 e6 HF;exact bodyPost_ret (v:= .agg #[ι sh,ι wi,ι ra,ι ta,.slice i nl j,.slice k al l,.slice m sl n]) (by simp[results,Tryz.results80,go_sem,e0,e1,e2,e3,e4,e5,e6]) rfl HF.o
end Mdc
namespace Bkj
open Abv Crd Bkp Bks Bcl Stk
def zRow:Array Value:= #[.slice none 0 0,.int .i64 0,.int .i64 0]
theorem made_rows(n:Nat):(madeCells zRow (n*3)).toList=rcs (List.replicate n rc0):=by
 apply List.ext_getElem?;intro i;by_cases h:i<n*3
 ·have b:(rcs (List.replicate n rc0))[i]? =(rcV rc0)[i%3]? :=by
   have a:=rcs_get (List.replicate n rc0) (i / 3) (i%3) (by rw[List.length_replicate];omega) (by omega)
   have c:gC (List.replicate n rc0) (i / 3)=rc0:=by
    have:i / 3<n:=by omega
    simp[gC,this]
   rw[c]at a;rw[←a]
   congr 1
   omega
  rw[b]
  have d:(madeCells zRow (n*3)).toList[i]? =some (zRow[i%3]!):=by
   unfold madeCells;have e:zRow.size=3:=rfl;simp[e,h]
  rw[d];rcases(by omega:i%3=0∨i%3=1∨i%3=2) with h0|h0|h0<;>rw[h0]<;>rfl
 ·rw[List.getElem?_eq_none (by simp[madeCells];omega),List.getElem?_eq_none (by rw[rcs_len,List.length_replicate];omega)]
def beginF(n:Nat)(sh:Int):Bk:=⟨sh,0,List.replicate n ro0,[]⟩
end Bkj
end Go.Proofs.YtcccdikhfgpamaaGreat
