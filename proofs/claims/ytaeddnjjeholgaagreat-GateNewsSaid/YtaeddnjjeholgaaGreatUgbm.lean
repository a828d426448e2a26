/- Texts side by side. -/
import Derived.Test.YtaeddnjjeholgaaGreatUgak
import Derived.Test.YtaeddnjjeholgaaGreatUgay
set_option linter.unusedVariables false
set_option linter.unusedSimpArgs false
set_option maxRecDepth 100000
set_option maxHeartbeats 16000000
namespace Go.Proofs.YtaeddnjjeholgaaGreat
open Kap Go.ChangeShapes Go.WideShapes Go.ChangeAt Go.RowKit Mem Tre Ref3 Law3 Fix3 CrdB CrdC Rr4
namespace Fr4
open Abv Crd Cpl Own Res Sm4
variable {xs:List Value} {base n size:Nat} {e:TypeId} {v:Value} {w:World}
theorem step_app1G{P:Program}{ops:Array Oper}{o:Oper}{a:Act}{K:Act→World→Prop}{Q:Exit→Act→World→Prop}{E:Prop}{te:TypeId}{cs:Array Value}(hown:Hid (w.ownsRow base e size v n xs))(hgd:o.guard=none)(s x:Operand)(t:TypeId)
  (ho:o.op= .call {callee:= .builtin .append,args:= #[s,x],argTypes:= #[t,t]})
  (i:TypeInfo)(z:Value)(bytes:Nat)(ht:P.underlying t=some (.slice e))(hi:P.info? e=some i)(hz:i.zero=some z)
  (hsize:i.size=size)(hby:i.bytes=bytes)(hzs:z.cells.size=size)(hsz:0<size)
  (hs:a.eval s=v){gb:Nat}(hx:a.eval x= .slice (some ⟨gb,0,none⟩) 1 1)(hgb:gb=w.heap.size)(news:List Value)(hn:cs.toList=news)(hl:news.length=size)(h1: ∀u∈news,u.oneCell'=true)
  (h63:n+1≤maxLen)(hbytes:(n+1)*bytes≤140737488355328)(hbase:base≤w.heap.size)
  (h: ∀A' c' w',Hid (w'.ownsRow base e size (.slice A' (n+1) c') (n+1) (xs++news))→(w.alloc (.cells cs te)).grownBy w' v.ownBlock→K (a.put o.dst (.slice A' (n+1) c')) w'):
  if Region.wanted o (yielded ops a.tmps)=true then Oper.wp P o a (w.alloc (.cells cs te)) K Q else E:=by
 subst hgb;have hw:Region.wanted o (yielded ops a.tmps)=true:=by simp[Region.wanted,hgd]
 rw[if_pos hw];refine wp_append_own _ s x t ho base e i z size bytes ht hi hz hsize hby hzs hsz v n xs hs (World.ownsRow.alloc hown.out _) ⟨w.heap.size,0,none⟩ 1 1 news hx (by omega) (one_cells hn) h1 h63 hbytes (by simp;omega) ?_;intro v' w' hown' hg _;obtain⟨A',c',rfl,_⟩:=own_form hown';exact h A' c' w' hown' hg
theorem own_row_ne(h:w.ownsRow base e size v n xs){g:Nat}(hg:g<base):some g≠v.ownBlock:=by
 intro e;have:=World.ownsRow.lt h g e.symm;omega
end Fr4
namespace St7
open Opn Bnd Flo Cfg Fr4
attribute [local go_sem] run_store_float
variable {xs:List Value} {base g n size:Nat} {te:TypeId} {a b c d e f h v v0 v1 v2 v3 v4 v5 v6:Value} {W w:World}
theorem wpList_app1G{P:Program}{ops:Array Oper}{rest:List Oper}{o:Oper}{a:Act}{Q:Exit→Act→World→Prop}{e:TypeId}{cs:Array Value}(hown:Hid (w.ownsRow base e size v n xs))(hgd:o.guard=none)(s x:Operand)(t:TypeId)
  (ho:o.op= .call {callee:= .builtin .append,args:= #[s,x],argTypes:= #[t,t]})
  (i:TypeInfo)(z:Value)(bytes:Nat)(ht:P.underlying t=some (.slice e))(hi:P.info? e=some i)(hz:i.zero=some z)
  (hsize:i.size=size)(hby:i.bytes=bytes)(hzs:z.cells.size=size)(hsz:0<size)
  (hs:a.eval s=v){gb:Nat}(hx:a.eval x= .slice (some ⟨gb,0,none⟩) 1 1)(hgb:gb=w.heap.size)(news:List Value)(hn:cs.toList=news)(hl:news.length=size)(h1: ∀u∈news,u.oneCell'=true)
  (h63:n+1≤maxLen)(hbytes:(n+1)*bytes≤140737488355328)(hbase:base≤w.heap.size)
  (h: ∀A' c' w',Hid (w'.ownsRow base e size (.slice A' (n+1) c') (n+1) (xs++news))→(w.alloc (.cells cs te)).grownBy w' v.ownBlock→wpList P ops Q rest (a.put o.dst (.slice A' (n+1) c')) w'):
  wpList P ops Q (o :: rest) a (w.alloc (.cells cs te)):=by
 subst hgb;refine wpList_append_own _ hgd s x t ho base e i z size bytes ht hi hz hsize hby hzs hsz v n xs hs (World.ownsRow.alloc hown.out _) ⟨w.heap.size,0,none⟩ 1 1 news hx (by omega) (one_cells hn) h1 h63 hbytes (by simp;omega) ?_;intro v' w' hown' hg _;obtain⟨A',c',rfl,_⟩:=own_form hown';exact h A' c' w' hown' hg
def st7(W:World)(g:Nat)(a b c d e f h:Value):World:=
 ((((((W.setCell ⟨g,0,none⟩ a).setCell ⟨g,1,none⟩ b).setCell ⟨g,2,none⟩ c).setCell ⟨g,3,none⟩ d).setCell ⟨g,4,none⟩ e).setCell ⟨g,5,none⟩ f).setCell ⟨g,6,none⟩ h
theorem st7_blk(hk:Blk W g te #[v0,v1,v2,v3,v4,v5,v6]):Blk (st7 W g a b c d e f h) g te #[a,b,c,d,e,f,h]:=by
 have k0:=ξ (blk_set hk 0 a);have k1:=ξ (blk_set k0 1 b);have k2:=ξ (blk_set k1 2 c);have k3:=ξ (blk_set k2 3 d);have k4:=ξ (blk_set k3 4 e);have k5:=ξ (blk_set k4 5 f);have k6:=ξ (blk_set k5 6 h);exact k6
theorem st7_below{B:Nat}{w0:World}(hb:Below B w0 W)(hg:B≤g):Below B w0 (st7 W g a b c d e f h):=
 ((((((hb.setCell (p:=⟨g,0,none⟩) hg a).setCell (p:=⟨g,1,none⟩) hg b).setCell (p:=⟨g,2,none⟩) hg c).setCell (p:=⟨g,3,none⟩) hg d).setCell (p:=⟨g,4,none⟩) hg e).setCell (p:=⟨g,5,none⟩) hg f).setCell (p:=⟨g,6,none⟩) hg h
theorem st7_own{e:TypeId}{e':Value}(ho:W.ownsRow base e size v n xs)(hg:g<base):(st7 W g a b c d e' f h).ownsRow base e size v n xs:=
 ownsRow_setCell_below (ownsRow_setCell_below (ownsRow_setCell_below (ownsRow_setCell_below (ownsRow_setCell_below (ownsRow_setCell_below (ownsRow_setCell_below ho (a:=⟨g,0,none⟩) hg a) (a:=⟨g,1,none⟩) hg b) (a:=⟨g,2,none⟩) hg c) (a:=⟨g,3,none⟩) hg d) (a:=⟨g,4,none⟩) hg e') (a:=⟨g,5,none⟩) hg f) (a:=⟨g,6,none⟩) hg h
theorem st7_cells(hk:Blk W g te #[v0,v1,v2,v3,v4,v5,v6]):
  (st7 W g a b c d e f h).cell? ⟨g,0,none⟩=some a∧(st7 W g a b c d e f h).cell? ⟨g,1,none⟩=some b∧(st7 W g a b c d e f h).cell? ⟨g,2,none⟩=some c∧(st7 W g a b c d e f h).cell? ⟨g,3,none⟩=some d∧
  (st7 W g a b c d e f h).cell? ⟨g,4,none⟩=some e∧(st7 W g a b c d e f h).cell? ⟨g,5,none⟩=some f∧(st7 W g a b c d e f h).cell? ⟨g,6,none⟩=some h:=
 have k:=st7_blk (a:=a) (b:=b) (c:=c) (d:=d) (e:=e) (f:=f) (h:=h) hk
 ⟨k.cell 0,k.cell 1,k.cell 2,k.cell 3,k.cell 4,k.cell 5,k.cell 6⟩
def MadeCf(sh wi ra ta:Int)(nd:List (Int×Int))(ac:List Int)(sy:List (Int×Int×Int×Nat))(w:World)(e:Ending)(w':World):Prop:=
 ∃A B C c d f,e= .returned (.agg #[.int .i64 sh,.int .i64 wi,.int .i64 ra,.int .i64 ta,.slice A nd.length c,.slice B ac.length d,.slice C sy.length f])∧Nds w' w'.heap.size A nd∧Ris w' w'.heap.size B ac∧Smb w' w'.heap.size C sy∧Below w.heap.size w w'
theorem madeCf_mk{sh wi ra ta:Int}{nd:List (Int×Int)}{ac:List Int}{sy:List (Int×Int×Int×Nat)}{A B C:Option Addr}{m k c d f:Nat}{w':World}(h1:n=nd.length)(h2:m=ac.length)(h3:k=sy.length)
  (hn:Nds w' w'.heap.size A nd)(ha:Ris w' w'.heap.size B ac)(hs:Smb w' w'.heap.size C sy)(hb:Below w.heap.size w w'):
  MadeCf sh wi ra ta nd ac sy w (.returned (.agg #[.int .i64 sh,.int .i64 wi,.int .i64 ra,.int .i64 ta,.slice A n c,.slice B m d,.slice C k f])) w':=by
 subst h1;subst h2;subst h3;exact⟨A,B,C,c,d,f,rfl,hn,ha,hs,hb⟩
theorem sym_info:(Tryz.prog.info? 90).map (fun i=>(i.zero,i.size,i.bytes))=some (some (.agg #[.int .i64 0,.int .i64 0,.int .i64 0,.float .f64 0]),4,32):=by kernel_rfl
end St7
namespace Mdc
open Abv Cfg Crd Bkp Bks Bcl Stk Apt Bko
theorem smbs_one(l:List (Int×Int×Int×Nat)): ∀u∈smbs l,u.oneCell'=true:=by
 intro u hu;simp only[smbs,List.mem_flatMap]at hu;obtain⟨e,_,he⟩:=hu;simp only[syV,List.mem_cons,List.not_mem_nil,or_false]at he;rcases he with rfl|rfl|rfl|rfl<;>rfl
theorem infoD:(Tryz.prog.info? 102).map (fun i=>(i.zero,i.size,i.bytes))=some (some (.agg #[.int .i64 0,.int .i64 0]),2,16):=by kernel_rfl
theorem cloneD(A:Option Addr)(n c:Nat)(l:List (Int×Int))(w:World)(hn:Hid (n=l.length))(hl:Hid (Rd w w.heap.size A (nds l)))(hmax:(n:Int)≤1000000):
  Calls Tryz.prog 67 #[.slice A n c] w (MadeOw 102 2 n (nds l) w):=by
 obtain⟨i0,hi,hz0,hz1,hz2⟩:=info_parts infoD;have hq:=fun(W:World) (n c:Nat)=>Lib.run_eql_slice_nil (P:=Tryz.prog) W 40 102 A n c 0 0 Tryz.underlying40
 have hln:Hid ((nds l).length=n*2):=by show _=_;rw[hn.out];exact nds_len l
 cases A with
 |none=>
  have hl0:nds l=[]:=by
   rcases hl.out with h|⟨b,o,h,_⟩
   ·exact h
   ·cases h
  have hn0:n=0:=by have:=hln.out;rw[hl0]at this;simp at this;omega
  have HL:=κ hl0;clear hn hln hl0;subst hn0
  go_enter Tryz.func67,Tryz.ntmps67
  go_wp2_with fail
  go_ret;rw[HL.out];exact⟨none,0,rfl,World.ownsRow_nil _ _ _ _,Below.refl _ _⟩
 |some ad=>
  have hl1:Hid (Rd (w.alloc (.cells #[] 102)) w.heap.size (some ad) (nds l)):=Rd.below hl.out (ψ.alloc τ _);have how:Hid ((w.alloc (.cells #[] 102)).ownsRow w.heap.size 102 2 (.slice (some (α w.heap.size 0)) 0 0) 0 []):=own_empty (Blk.fresh w _ _) τ;have hb0:=β w (.cells #[] 102)
  go_enter Tryz.func67,Tryz.ntmps67
  go_wp2_with (at_builtin;go_loud (refine wpList_appR (nm:=n) how hb0 hl1 (by simp) rfl _ _ _ rfl i0 (.agg #[.int .i64 0,.int .i64 0]) 16 Tryz.underlying40 hi hz0 hz1 hz2 rfl (by decide) rfl rfl hln.out (nds_one l) (by unfold maxLen;omega) (by omega) τ (by simp) (by simp) ?_);intro A1 c1 w1 hown1 hbel1 hsz1)
  go_ret;exact⟨A1,c1,rfl,hown1,hbel1⟩
theorem infoM:(Tryz.prog.info? 3).map (fun i=>(i.zero,i.size,i.bytes))=some (some (.int .i64 0),1,8):=by kernel_rfl
theorem cloneM(A:Option Addr)(n c:Nat)(l:List Int)(w:World)(hn:Hid (n=l.length))(hl:Hid (Rd w w.heap.size A (ints l)))(hmax:(n:Int)≤1000000):
  Calls Tryz.prog 45 #[.slice A n c] w (MadeOw 3 1 n (ints l) w):=by
 obtain⟨i0,hi,hz0,hz1,hz2⟩:=info_parts infoM;have hq:=fun(W:World) (n c:Nat)=>Lib.run_eql_slice_nil (P:=Tryz.prog) W 23 3 A n c 0 0 Tryz.underlying23
 have hln:Hid ((ints l).length=n*1):=by show _=_;rw[hn.out];exact ints_len1 l
 cases A with
 |none=>
  have hl0:ints l=[]:=by
   rcases hl.out with h|⟨b,o,h,_⟩
   ·exact h
   ·cases h
  have hn0:n=0:=by have:=hln.out;rw[hl0]at this;simp at this;omega
  have HL:=κ hl0;clear hn hln hl0;subst hn0
  go_enter Tryz.func45,Tryz.ntmps45
  go_wp2_with fail
  go_ret;rw[HL.out];exact⟨none,0,rfl,World.ownsRow_nil _ _ _ _,Below.refl _ _⟩
 |some ad=>
  have hl1:Hid (Rd (w.alloc (.cells #[] 3)) w.heap.size (some ad) (ints l)):=Rd.below hl.out (ψ.alloc τ _);have how:Hid ((w.alloc (.cells #[] 3)).ownsRow w.heap.size 3 1 (.slice (some (α w.heap.size 0)) 0 0) 0 []):=own_empty (Blk.fresh w _ _) τ;have hb0:=β w (.cells #[] 3)
  go_enter Tryz.func45,Tryz.ntmps45
  go_wp2_with (at_builtin;go_loud (refine wpList_appR (nm:=n) how hb0 hl1 (by simp) rfl _ _ _ rfl i0 (.int .i64 0) 8 Tryz.underlying23 hi hz0 hz1 hz2 rfl (by decide) rfl rfl hln.out (ints_one l) (by unfold maxLen;omega) (by omega) τ (by simp) (by simp) ?_);intro A1 c1 w1 hown1 hbel1 hsz1)
  go_ret;exact⟨A1,c1,rfl,hown1,hbel1⟩
theorem infoY:(Tryz.prog.info? 106).map (fun i=>(i.zero,i.size,i.bytes))=some (some (.agg #[.int .i64 0,.int .i64 0,.int .i64 0,.float .f64 0]),4,32):=by kernel_rfl
theorem cloneY(A:Option Addr)(n c:Nat)(l:List (Int×Int×Int×Nat))(w:World)(hn:Hid (n=l.length))(hl:Hid (Rd w w.heap.size A (smbs l)))(hmax:(n:Int)≤1000000):
  Calls Tryz.prog 68 #[.slice A n c] w (MadeOw 106 4 n (smbs l) w):=by
 obtain⟨i0,hi,hz0,hz1,hz2⟩:=info_parts infoY;have hq:=fun(W:World) (n c:Nat)=>Lib.run_eql_slice_nil (P:=Tryz.prog) W 41 106 A n c 0 0 Tryz.underlying41
 have hln:Hid ((smbs l).length=n*4):=by show _=_;rw[hn.out];exact smbs_len l
 cases A with
 |none=>
  have hl0:smbs l=[]:=by
   rcases hl.out with h|⟨b,o,h,_⟩
   ·exact h
   ·cases h
  have hn0:n=0:=by have:=hln.out;rw[hl0]at this;simp at this;omega
  have HL:=κ hl0;clear hn hln hl0;subst hn0
  go_enter Tryz.func68,Tryz.ntmps68
  go_wp2_with fail
  go_ret;rw[HL.out];exact⟨none,0,rfl,World.ownsRow_nil _ _ _ _,Below.refl _ _⟩
 |some ad=>
  have hl1:Hid (Rd (w.alloc (.cells #[] 106)) w.heap.size (some ad) (smbs l)):=Rd.below hl.out (ψ.alloc τ _);have how:Hid ((w.alloc (.cells #[] 106)).ownsRow w.heap.size 106 4 (.slice (some (α w.heap.size 0)) 0 0) 0 []):=own_empty (Blk.fresh w _ _) τ;have hb0:=β w (.cells #[] 106)
  go_enter Tryz.func68,Tryz.ntmps68
  go_wp2_with (at_builtin;go_loud (refine wpList_appR (nm:=n) how hb0 hl1 (by simp) rfl _ _ _ rfl i0 (.agg #[.int .i64 0,.int .i64 0,.int .i64 0,.float .f64 0]) 32 Tryz.underlying41 hi hz0 hz1 hz2 rfl (by decide) rfl rfl hln.out (smbs_one l) (by unfold maxLen;omega) (by omega) τ (by simp) (by simp) ?_);intro A1 c1 w1 hown1 hbel1 hsz1)
  go_ret;exact⟨A1,c1,rfl,hown1,hbel1⟩
theorem own_st7{w:World}{base:Nat}{e te:TypeId}{size n g:Nat}{v:Value}{xs:List Value}{u0 u1 u2 u3 u4 u5 u6 v0 v1 v2 v3 v4 v5 v6:Value}(h:w.ownsRow base e size v n xs)(hk:Blk w g te #[u0,u1,u2,u3,u4,u5,u6])(hne:e≠te):
  (st7 w g v0 v1 v2 v3 v4 v5 v6).ownsRow base e size v n xs:=by
 have k1:=ξ (blk_st hk 0 v0);have k2:=ξ (blk_st k1 1 v1);have k3:=ξ (blk_st k2 2 v2);have k4:=ξ (blk_st k3 3 v3);have k5:=ξ (blk_st k4 4 v4);have k6:=ξ (blk_st k5 5 v5);exact(own_st (own_st (own_st (own_st (own_st (own_st (own_st h hk hne 0 v0) k1 hne 1 v1) k2 hne 2 v2) k3 hne 3 v3) k4 hne 4 v4) k5 hne 5 v5) k6 hne 6 v6)
def MadeCo(sh wi ra ta:Int)(nl al sl:Nat)(nd:List (Int×Int))(ac:List Int)(sy:List (Int×Int×Int×Nat))(w:World)(e:Ending)(w':World):Prop:=
 ∃A B C c d f,e= .returned (.agg #[.int .i64 sh,.int .i64 wi,.int .i64 ra,.int .i64 ta,.slice A nl c,.slice B al d,.slice C sl f])∧Nds w' w'.heap.size A nd∧Ris w' w'.heap.size B ac∧Smb w' w'.heap.size C sy∧(∀a,A=some a→w.heap.size≤a.block)∧(∀a,B=some a→w.heap.size≤a.block)∧(∀a,C=some a→w.heap.size≤a.block)∧Below w.heap.size w w'
theorem owncfg_any(sh wi ra ta:Int)(A B C:Option Addr)(nl al sl c d f:Nat)(nd:List (Int×Int))(ac:List Int)(sy:List (Int×Int×Int×Nat))(w:World)(h1:Hid (nl=nd.length))(h2:Hid (al=ac.length))(h3:Hid (sl=sy.length))
  (hn:Hid (Nds w w.heap.size A nd))(ha:Hid (Ris w w.heap.size B ac))(hs:Hid (Smb w w.heap.size C sy))(m1:nl≤100000)(m2:al≤100000)(m3:sl≤100000):
  Calls Tryz.prog 34 #[.agg #[.int .i64 sh,.int .i64 wi,.int .i64 ra,.int .i64 ta,.slice A nl c,.slice B al d,.slice C sl f]] w (MadeCo sh wi ra ta nl al sl nd ac sy w):=by
 have b0:=κ (γ w (.cells (vC sh wi ra ta A nl c B al d C sl f) 43) (.cells (vC 0 0 0 0 none 0 0 none 0 0 none 0 0) 43));have K0:=κ ((Blk.fresh w 43 (vC sh wi ra ta A nl c B al d C sl f)).alloc (.cells (vC 0 0 0 0 none 0 0 none 0 0 none 0 0) 43));have R0:=κ (δ (w.alloc (.cells (vC sh wi ra ta A nl c B al d C sl f) 43)) 43 (vC 0 0 0 0 none 0 0 none 0 0 none 0 0) (w.heap.size+1))
 go_enter Tryz.func34,Tryz.ntmps34
 go_upto_region 1 with fail
 generalize ((w.alloc (.cells (vC sh wi ra ta A nl c B al d C sl f) 43)).alloc (.cells (vC 0 0 0 0 none 0 0 none 0 0 none 0 0) 43))=w0 at b0 K0 R0 ⊢;obtain⟨gB,hgB⟩:=ν w.heap.size;obtain⟨gZ,hgR⟩:=ν (w.heap.size+1);have hBR:Hid (gZ≠gB):=by show _≠_;omega
 have hLB:Hid (w.heap.size≤gB):=by show _≤_;omega
 have hLR:Hid (w.heap.size≤gZ):=by show _≤_;omega
 have K1:=κ (ζ hgB K0.out);have R1:=κ (ζ hgR R0.out);simp only[←hgR];simp only[←hgB];clear hgB hgR K0 R0;obtain⟨k0,k1,k2,k3,k4,k5,k6⟩:=q7_of K1.out
 go_wp2_with fail
 refine(cloneD A nl c nd _ h1 (Rd.below' hn.out b0.out b0.out.size) (by omega)).mono ?_;rintro e w1 ⟨A1,c1,rfl,how,hb1⟩;have KK:=κ (Blk.below' K1.out hb1);have RR:=κ (Blk.below' R1.out hb1);obtain⟨x0,x1,x2,x3,x4,x5,x6,f0,f1',f2,f3,f4,f5,f6⟩:=z7_of KK.out;have K2:=κ (ξ (blk_st KK.out 4 (.slice A1 nl c1)));have R2:Hid (Blk (w1.setCell (α gB 4) (.slice A1 nl c1)) gZ 43 (vC 0 0 0 0 none 0 0 none 0 0 none 0 0)):=far_st RR.out hBR.out _;have b2:Hid (Below w.heap.size w (w1.setCell (α gB 4) (.slice A1 nl c1))):=(below_step b0.out hb1).setCell (p:=(α gB 4)) hLB.out _;have n1:Hid (((w1.setCell (α gB 4) (.slice A1 nl c1))).ownsRow w.heap.size 102 2 (.slice A1 nl c1) nl (nds nd)):=own_st (own_mono how b0.out.size) KK.out (by decide) 4 _
 go_upto_region 2 with fail
 clear k0 k1 k2 k3 k4 k5 k6 x0 x1 x2 x3 x4 x5 x6 f0 f1' f2 f3 f4 f5 f6 KK RR how hb1 K1 R1 b0;generalize (w1.setCell (α gB 4) (.slice A1 nl c1))=w2 at K2 R2 b2 n1 ⊢;obtain⟨k0,k1,k2,k3,k4,k5,k6⟩:=q7_of K2.out
 go_wp2_with fail
 refine(cloneM B al d ac _ h2 (Rd.below' ha.out b2.out b2.out.size) (by omega)).mono ?_;rintro e w3 ⟨B1,d1,rfl,how,hb1⟩;have KK:=κ (Blk.below' K2.out hb1);have RR:=κ (Blk.below' R2.out hb1);obtain⟨x0,x1,x2,x3,x4,x5,x6,f0,f1',f2,f3,f4,f5,f6⟩:=z7_of KK.out;have K3:=κ (ξ (blk_st KK.out 5 (.slice B1 al d1)));have R3:Hid (Blk (w3.setCell (α gB 5) (.slice B1 al d1)) gZ 43 (vC 0 0 0 0 none 0 0 none 0 0 none 0 0)):=far_st RR.out hBR.out _;have b4:Hid (Below w.heap.size w (w3.setCell (α gB 5) (.slice B1 al d1))):=(below_step b2.out hb1).setCell (p:=(α gB 5)) hLB.out _;have n2:Hid (((w3.setCell (α gB 5) (.slice B1 al d1))).ownsRow w.heap.size 3 1 (.slice B1 al d1) al (ints ac)):=own_st (own_mono how b2.out.size) KK.out (by decide) 5 _;have n1':Hid (((w3.setCell (α gB 5) (.slice B1 al d1))).ownsRow w.heap.size 102 2 (.slice A1 nl c1) nl (nds nd)):=own_st (own_below n1 hb1) KK.out (by decide) 5 _
 go_upto_region 3 with fail
 clear k0 k1 k2 k3 k4 k5 k6 x0 x1 x2 x3 x4 x5 x6 f0 f1' f2 f3 f4 f5 f6 KK RR how hb1 K2 R2 b2 n1;generalize (w3.setCell (α gB 5) (.slice B1 al d1))=w4 at K3 R3 b4 n2 n1' ⊢;have n1:=n1';clear n1';obtain⟨k0,k1,k2,k3,k4,k5,k6⟩:=q7_of K3.out
 go_wp2_with fail
 refine(cloneY C sl f sy _ h3 (Rd.below' hs.out b4.out b4.out.size) (by omega)).mono ?_;rintro e w5 ⟨C1,f1,rfl,how,hb1⟩;have KK:=κ (Blk.below' K3.out hb1);have RR:=κ (Blk.below' R3.out hb1);obtain⟨x0,x1,x2,x3,x4,x5,x6,f0,f1',f2,f3,f4,f5,f6⟩:=z7_of KK.out;have K4:=κ (ξ (blk_st KK.out 6 (.slice C1 sl f1)));have R4:Hid (Blk (w5.setCell (α gB 6) (.slice C1 sl f1)) gZ 43 (vC 0 0 0 0 none 0 0 none 0 0 none 0 0)):=far_st RR.out hBR.out _;have b6:Hid (Below w.heap.size w (w5.setCell (α gB 6) (.slice C1 sl f1))):=(below_step b4.out hb1).setCell (p:=(α gB 6)) hLB.out _;have n3:Hid (((w5.setCell (α gB 6) (.slice C1 sl f1))).ownsRow w.heap.size 106 4 (.slice C1 sl f1) sl (smbs sy)):=own_st (own_mono how b4.out.size) KK.out (by decide) 6 _;have n1':Hid (((w5.setCell (α gB 6) (.slice C1 sl f1))).ownsRow w.heap.size 102 2 (.slice A1 nl c1) nl (nds nd)):=own_st (own_below n1 hb1) KK.out (by decide) 6 _;have n2':Hid (((w5.setCell (α gB 6) (.slice C1 sl f1))).ownsRow w.heap.size 3 1 (.slice B1 al d1) al (ints ac)):=own_st (own_below n2 hb1) KK.out (by decide) 6 _
 go_upto_region 4 with fail
 clear k0 k1 k2 k3 k4 k5 k6 x0 x1 x2 x3 x4 x5 x6 f0 f1' f2 f3 f4 f5 f6 KK RR how hb1 K3 R3 b4 n1 n2;generalize (w5.setCell (α gB 6) (.slice C1 sl f1))=w6 at K4 R4 b6 n3 n1' n2' ⊢;have n1:=n1';clear n1';have n2:=n2';clear n2';have F3:Blk (st7 w6 gZ (ι sh) (ι wi) (ι ra) (ι ta) (.slice A1 nl c1) (.slice B1 al d1) (.slice C1 sl f1)) gZ 43 (vC sh wi ra ta A1 nl c1 B1 al d1 C1 sl f1):=st7_blk R4.out
 have hfin:MadeCo sh wi ra ta nl al sl nd ac sy w (.returned (.agg (vC sh wi ra ta A1 nl c1 B1 al d1 C1 sl f1))) (st7 w6 gZ (ι sh) (ι wi) (ι ra) (ι ta) (.slice A1 nl c1) (.slice B1 al d1) (.slice C1 sl f1)):=
  ⟨A1,B1,C1,c1,d1,f1,rfl,Rd.of_own (own_st7 n1.out R4.out (by decide)),Rd.of_own (own_st7 n2.out R4.out (by decide)),Rd.of_own (own_st7 n3.out R4.out (by decide)),own_fresh n1.out,own_fresh n2.out,own_fresh n3.out,st7_below b6.out hLR.out⟩
 have HF:=κ hfin;clear hfin;obtain⟨k0,k1,k2,k3,k4,k5,k6⟩:=q7_of K4.out;obtain⟨z0,z1,z2,z3,z4,z5,z6,f0,f1',f2,f3,f4,f5,f6⟩:=z7_of R4.out
 go_wp2_with fail
 obtain⟨e0,e1,e2,e3,e4,e5,e6⟩:=q7_of F3;clear F3;unfold st7 at e0 e1 e2 e3 e4 e5 e6 HF;exact bodyPost_ret (v:= .agg #[ι sh,ι wi,ι ra,ι ta,.slice A1 nl c1,.slice B1 al d1,.slice C1 sl f1]) (by simp[results,Tryz.results34,go_sem,e0,e1,e2,e3,e4,e5,e6]) rfl HF.out
end Mdc
end Go.Proofs.YtaeddnjjeholgaaGreat
