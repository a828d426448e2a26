/- Texts side by side. -/
import Derived.Test.YtfbajlcljfjbkaaGreatUniba
set_option linter.unusedVariables false
set_option linter.unusedSimpArgs false
set_option maxRecDepth 100000
set_option maxHeartbeats 16000000
namespace Go.Proofs.YtfbajlcljfjbkaaGreat
open Kap Go.ChangeShapes Go.WideShapes Go.ChangeAt Go.RowKit Mem Tre Ref3 Law3 CrdB CrdC
namespace Fr4
open Abv Fix3 Crd Cpl Own Res Rr4 Sm4
variable {xs:List Value} {base n size:Nat} {e:TypeId} {v:Value} {w:World}
theorem step_app1G{P:Program}{ops:Array Oper}{o:Oper}{a:Act}{K:Act→World→Prop}{Q:Exit→Act→World→Prop}{E:Prop}{te:TypeId}{cs:Array Value}(hown:Hid (w.ownsRow base e size v n xs))(hgd:o.guard=none)(s x:Operand)(t:TypeId)
  (ho:o.op= .call {callee:= .builtin .append,args:= #[s,x],argTypes:= #[t,t]})
  (i:TypeInfo)(z:Value)(bytes:Nat)(ht:P.underlying t=some (.slice e))(hi:P.info? e=some i)(hz:i.zero=some z)
  (hsize:i.size=size)(hby:i.bytes=bytes)(hzs:z.cells.size=size)(hsz:0<size)
  (hs:a.eval s=v){gb:Nat}(hx:a.eval x= .slice (some ⟨gb,0,none⟩) 1 1)(hgb:gb=w.heap.size)(news:List Value)(hn:cs.toList=news)(hl:news.length=size)(h1: ∀u∈news,u.oneCell'=true)
  (h63:n+1≤maxLen)(hbytes:(n+1)*bytes≤140737488355328)(hbase:base≤w.heap.size)
  (h: ∀A' c' w',Hid (w'.ownsRow base e size (.slice A' (n+1) c') (n+1) (xs++news))→(w.alloc (.cells cs te)).grownBy w' v.ownBlock→K (a.put o.dst (.slice A' (n+1) c')) w'):
  if Region.wanted o (yielded ops a.tmps)=true then Oper.wp P o a (w.alloc (.cells cs te)) K Q else E:=by
 subst hgb;have hw:Region.wanted o (yielded ops a.tmps)=true:=by simp[Region.wanted,hgd]
 rw[if_pos hw];refine wp_append_own _ s x t ho base e i z size bytes ht hi hz hsize hby hzs hsz v n xs hs (World.ownsRow.alloc hown.out _) ⟨w.heap.size,0,none⟩ 1 1 news hx (by omega) (one_cells hn) h1 h63 hbytes (by simp;omega) ?_;intro v' w' hown' hg _;obtain⟨A',c',rfl,_⟩:=own_form hown';exact h A' c' w' hown' hg
theorem own_row_ne(h:w.ownsRow base e size v n xs){g:Nat}(hg:g<base):some g≠v.ownBlock:=by
 intro e;have:=World.ownsRow.lt h g e.symm;omega
theorem from_any(A A':Option Addr)(c c':Nat)(l:List (Int×Int))(u:List Int)(w:World)(hl:Hid (Nds w w.heap.size A l))(hu:Hid (Ris w w.heap.size A' u))(hmax:(l.length:Int)≤1000000)(hmay:(u.length:Int)≤1000000):
  Calls Tryz.prog 35 #[.agg #[.slice A l.length c,.slice A' u.length c']] w (MadeSt l u w):=by
 obtain⟨i0,hi,hz0,hz1,hz2⟩:=info_parts rnode_info;obtain⟨j0,hj,hj0,hj1,hj2⟩:=info_parts i64_info;obtain⟨W,hW⟩:=ν (((w.alloc (.cells #[.slice A l.length c,.slice A' u.length c'] 80)).alloc (.cells #[.slice none 0 0,.slice none 0 0] 102)).alloc (.cells #[] 2));have HW:=κ hW;have b0:Below w.heap.size w W:=by rw[hW];exact((ψ.alloc τ _).alloc (by simp) _).alloc (by simp;omega) _
 have k1:Hid (Blk W w.heap.size 80 (vS A l.length c A' u.length c')):=by rw[hW];exact((Blk.fresh w _ _).alloc _).alloc _
 have k2:Hid (Blk W (w.heap.size+1) 102 (vS none 0 0 none 0 0)):=by
  have:=Blk.fresh (w.alloc (.cells (vS A l.length c A' u.length c') 80)) 102 (vS none 0 0 none 0 0);simp only[World.size_alloc]at this;rw[hW];exact this.alloc _
 have k3:Blk W (w.heap.size+2) 2 #[]:=by
  have:=Blk.fresh ((w.alloc (.cells (vS A l.length c A' u.length c') 80)).alloc (.cells (vS none 0 0 none 0 0) 102)) 2 #[];simp only[World.size_alloc]at this;rw[hW];exact this
 have how:Hid (W.ownsRow (w.heap.size+2) 2 1 (.slice (some ⟨w.heap.size+2,0,none⟩) 0 0) 0 []):=own_empty k3 τ;have hszW:W.heap.size=w.heap.size+3:=by rw[hW];simp
 have hbl:Below (w.heap.size+2) W W:=Below.refl _ _;have hru:Hid (Rd W w.heap.size A' (ints u)):=Rd.below hu.out b0;have f1:W.cell? ⟨w.heap.size,1,none⟩=some (.slice A' u.length c'):=k1.out.cell 1;have hs1:w.heap.size+2≤W.heap.size:=by omega
 have HZ:=κ hszW;clear hW k3 hszW
 go_enter Tryz.func35,Tryz.ntmps35
 go_wp2_with (at_builtin;rw[←HW.out];refine wpList_appR (nm:=u.length) how hbl hru (by simp) rfl _ _ _ rfl j0 (.int .i64 0) 8 Tryz.underlying78 hj hj0 hj1 hj2 rfl (by decide) rfl rfl (by rw[ints_len];omega) (ints_one u) (by unfold maxLen;omega) (by omega) τ hs1 hs1 ?_;intro A5 c5 w5 hown5 hb5 hsz5)
 have kO:Hid (Blk (w5.alloc (.cells (vS none 0 0 A5 u.length c5) 102)) w5.heap.size 102 (vS none 0 0 A5 u.length c5)):=Blk.fresh w5 102 (vS none 0 0 A5 u.length c5);have hb6:Below (w.heap.size+2) W (w5.alloc (.cells (vS none 0 0 A5 u.length c5) 102)):=hb5.alloc (by omega) _;have hu6:Hid ((w5.alloc (.cells (vS none 0 0 A5 u.length c5) 102)).ownsRow (w.heap.size+2) 2 1 (.slice A5 u.length c5) u.length (ints u)):=World.ownsRow.alloc hown5.out _;have hz6:(w5.alloc (.cells (vS none 0 0 A5 u.length c5) 102)).heap.size=w5.heap.size+1:=World.size_alloc _ _;have hgO:w.heap.size+2≤w5.heap.size:=by omega
 have hfr: ∀q,(Value.slice A5 u.length c5).ownBlock=some q→q<w5.heap.size:=fun q hq=>(World.ownsRow.lt hown5.out q hq).2
 have HFR:=κ hfr;have H6:=κ hz6;clear hown5 hb5 hsz5 hfr hz6 hru hbl how f1;generalize w5.alloc (.cells (vS none 0 0 A5 u.length c5) 102)=w6 at kO hb6 hu6 H6 ⊢;generalize w5.heap.size=gO at kO hgO HFR H6 ⊢;have hg6:gO<w6.heap.size:=kO.out.lt;have k1':=κ (Blk.below k1.out hb6 (by omega));have k2':=κ (Blk.below k2.out hb6 (by omega));have b6:Below w.heap.size w w6:=b0.trans (hb6.mono (by omega))
 go_loopg [4] l.length (fun g s4 w'=> ∃(k:Nat) (Ak:Option Addr) (ck:Nat),k+g=l.length∧s4= .int .i64 k∧Hid (Blk w' gO 102 (vS Ak k ck A5 u.length c5))∧Hid (w'.ownsRow (gO+1) 144 2 (.slice Ak k ck) k (nds (l.take k)))∧Below gO w6 w')
 case atStart=>exact⟨0,none,0,by omega,rfl,kO,World.ownsRow_nil _ _ _ _,Below.refl _ _⟩
 case round=>
  obtain⟨k,Ak,ck,hk,rfl,hO,hown,hbl⟩:=hrel;have hq1:=κ (Blk.below k1'.out hbl (by omega));have f0:wr.cell? ⟨w.heap.size,0,none⟩=some (.slice A l.length c):=hq1.out.cell 0;have f2:wr.cell? ⟨gO,0,none⟩=some (.slice Ak k ck):=hO.out.cell 0;have f3:wr.cell? ⟨gO,1,none⟩=some (.slice A5 u.length c5):=hO.out.cell 1;have hgr:=hO.out.lt;by_cases hlt:(k:Int)<(l.length:Int)
  ·obtain⟨g,rfl⟩: ∃g,gk=g+1:=⟨gk-1,by omega⟩;have hlw:Nds wr w.heap.size A l:=Rd.below hl.out (b6.trans (hbl.mono (by omega)));obtain⟨b,o,rfl,hb,hcc⟩:=Nds.at hlw (by omega);have d0:=(hcc k (by omega)).1;have d1:=(hcc k (by omega)).2;have hbw:b<wr.heap.size:=by omega
   have hsw:w.heap.size<wr.heap.size:=by omega
   have d0': ∀X,(wr.alloc X).cell? ⟨b,o+k*2,none⟩=some (.int .i64 (nP l k)):=fun X=>(World.cell?_alloc_lt wr X ⟨b,o+k*2,none⟩ hbw).trans d0
   have d1': ∀X,(wr.alloc X).cell? ⟨b,o+k*2+1,none⟩=some (.int .i64 (nC l k)):=fun X=>(World.cell?_alloc_lt wr X ⟨b,o+k*2+1,none⟩ hbw).trans d1
   have f2': ∀X,(wr.alloc X).cell? ⟨gO,0,none⟩=some (.slice Ak k ck):=fun X=>(World.cell?_alloc_lt wr X ⟨gO,0,none⟩ hgr).trans f2
   have f0': ∀X,(wr.alloc X).cell? ⟨w.heap.size,0,none⟩=some (.slice (some ⟨b,o,none⟩) l.length c):=fun X=>(World.cell?_alloc_lt wr X ⟨w.heap.size,0,none⟩ hsw).trans f0
   have hpre:Hid (nds (l.take (k+1))=nds (l.take k)++[.int .i64 (nP l k),.int .i64 (nC l k)]):=by show _=_;rw[take_snoc (by omega),nds_snoc]
   clear hcc hlw
   go_wp2_with fail
   go_region_law ((refine step_app1G (own_drew hown) rfl _ _ _ rfl i0 (.agg #[.int .i64 0,.int .i64 0]) 16 Tryz.underlying22 hi hz0 hz1 hz2 rfl (by decide) rfl rfl rfl [.int .i64 (nP l k),.int .i64 (nC l k)] rfl rfl (by simp[Value.oneCell']) (by unfold maxLen;omega) (by omega) hgr ?_;intro A1 c1 w1 hown1 hgr1;have hO1:=κ (Blk_grown (Blk.alloc (w:=wr.drew) hO.out _) hgr1 (own_row_ne hown.out (by omega)));have s0:w1.cell? ⟨gO,0,none⟩=some (.slice Ak k ck):=hO1.out.cell 0;have s1:w1.frozen? ⟨gO,0,none⟩=false:=hO1.out.thaw 0))
   all_goals
    have hO2:=κ (blk_set hO1.out 0 (.slice A1 (k+1) c1))
    have hown2:Hid ((w1.setCell ⟨gO,0,none⟩ (.slice A1 (k+1) c1)).ownsRow (gO+1) 144 2 (.slice A1 (k+1) c1) (k+1) (nds (l.take (k+1)))):=by
     rw[hpre.out];exact ownsRow_setCell_below hown1.out (by simp) _
    have hbl2:Below gO w6 (w1.setCell ⟨gO,0,none⟩ (.slice A1 (k+1) c1)):=by
     refine(((hbl.drew).alloc (by simp;omega) _).grown hgr1 (by simp;omega) ?_).setCell τ _;intro q hq;have:=World.ownsRow.lt hown.out q hq;omega
    clear hO1 hown1 hgr1
    go_wp2_with fail
    go_roundg g
    case measure=>omega
    case rel=>exact⟨k+1,A1,c1,by omega,by go_num,hO2,hown2,hbl2⟩
  ·have hkl:Hid (k=l.length):=by show _=_;omega
   have hown':Hid (wr.ownsRow (gO+1) 144 2 (.slice Ak k ck) k (nds l)):=by
    have:=hown.out;rw[hkl.out,List.take_length]at this;rw[hkl.out];exact this
   have hq2:=κ (Blk.below k2'.out hbl (by omega));have r0:wr.cell? ⟨w.heap.size+1,0,none⟩=some (.slice none 0 0):=hq2.out.cell 0;have r1:wr.cell? ⟨w.heap.size+1,1,none⟩=some (.slice none 0 0):=hq2.out.cell 1;have y0:wr.frozen? ⟨w.heap.size+1,0,none⟩=false:=hq2.out.thaw 0;have y1:wr.frozen? ⟨w.heap.size+1,1,none⟩=false:=hq2.out.thaw 1;have bF:=((b6.trans (hbl.mono (by omega))).setCell (p:=⟨w.heap.size+1,0,none⟩) (by simp) (.slice Ak k ck)).setCell (p:=⟨w.heap.size+1,1,none⟩) (by simp) (.slice A5 u.length c5);have T1:=κ (Rd.of_own (ownsRow_setCell_below (ownsRow_setCell_below hown'.out (a:=⟨w.heap.size+1,0,none⟩) (by show w.heap.size+1<gO+1;omega) (.slice Ak k ck)) (a:=⟨w.heap.size+1,1,none⟩) (by show w.heap.size+1<gO+1;omega) (.slice A5 u.length c5)))
   have hu7:wr.ownsRow (w.heap.size+2) 2 1 (.slice A5 u.length c5) u.length (ints u):=by
    refine World.ownsRow.kept (row:=some gO) hu6.out ⟨hbl.os,hbl.tape,hbl.output,hbl.size,fun q hq hne=>?_⟩ ?_
    ·have:q≠gO:=fun e=>hne (by rw[e])
     exact hbl.block q (by have:=H6.out;omega)
    ·cases hv:(Value.slice A5 u.length c5).ownBlock with
     |none=>exact .inl rfl
     |some q=>
      right;intro e;injection e with e
      have:=HFR.out q hv;omega
   have T2:=κ (Rd.of_own (ownsRow_setCell_below (ownsRow_setCell_below hu7 (a:=⟨w.heap.size+1,0,none⟩) (by show w.heap.size+1<w.heap.size+2;omega) (.slice Ak k ck)) (a:=⟨w.heap.size+1,1,none⟩) (by show w.heap.size+1<w.heap.size+2;omega) (.slice A5 u.length c5)));have kf:=blk_set (blk_set hq2.out 0 (.slice Ak k ck)) 1 (.slice A5 u.length c5);have t4:((wr.setCell ⟨w.heap.size+1,0,none⟩ (.slice Ak k ck)).setCell ⟨w.heap.size+1,1,none⟩ (.slice A5 u.length c5)).cell? ⟨w.heap.size+1,0,none⟩=some (.slice Ak k ck):=by rw[kf.cell];rfl
   have t5:((wr.setCell ⟨w.heap.size+1,0,none⟩ (.slice Ak k ck)).setCell ⟨w.heap.size+1,1,none⟩ (.slice A5 u.length c5)).cell? ⟨w.heap.size+1,1,none⟩=some (.slice A5 u.length c5):=by rw[kf.cell];rfl
   have hend:=κ (madeSt_mk (A:=Ak) (A':=A5) (c:=ck) (c':=c5) hkl.out rfl T1.out T2.out bF);clear kf bF hu7 hown hown'
   go_wp2_with fail
   exact bodyPost_ret (v:= .agg #[.slice Ak k ck,.slice A5 u.length c5]) (by simp[results,Tryz.results35,go_sem,t4,t5]) rfl hend.out
end Fr4
namespace St7
open Fix3 Opn Bnd Flo Cfg Rr4 Fr4
attribute [local go_sem] run_store_float
variable {xs:List Value} {base g n size:Nat} {te:TypeId} {a b c d e f h v v0 v1 v2 v3 v4 v5 v6:Value} {W w:World}
theorem wpList_app1G{P:Program}{ops:Array Oper}{rest:List Oper}{o:Oper}{a:Act}{Q:Exit→Act→World→Prop}{e:TypeId}{cs:Array Value}(hown:Hid (w.ownsRow base e size v n xs))(hgd:o.guard=none)(s x:Operand)(t:TypeId)
  (ho:o.op= .call {callee:= .builtin .append,args:= #[s,x],argTypes:= #[t,t]})
  (i:TypeInfo)(z:Value)(bytes:Nat)(ht:P.underlying t=some (.slice e))(hi:P.info? e=some i)(hz:i.zero=some z)
  (hsize:i.size=size)(hby:i.bytes=bytes)(hzs:z.cells.size=size)(hsz:0<size)
  (hs:a.eval s=v){gb:Nat}(hx:a.eval x= .slice (some ⟨gb,0,none⟩) 1 1)(hgb:gb=w.heap.size)(news:List Value)(hn:cs.toList=news)(hl:news.length=size)(h1: ∀u∈news,u.oneCell'=true)
  (h63:n+1≤maxLen)(hbytes:(n+1)*bytes≤140737488355328)(hbase:base≤w.heap.size)
  (h: ∀A' c' w',Hid (w'.ownsRow base e size (.slice A' (n+1) c') (n+1) (xs++news))→(w.alloc (.cells cs te)).grownBy w' v.ownBlock→wpList P ops Q rest (a.put o.dst (.slice A' (n+1) c')) w'):
  wpList P ops Q (o :: rest) a (w.alloc (.cells cs te)):=by
 subst hgb;refine wpList_append_own _ hgd s x t ho base e i z size bytes ht hi hz hsize hby hzs hsz v n xs hs (World.ownsRow.alloc hown.out _) ⟨w.heap.size,0,none⟩ 1 1 news hx (by omega) (one_cells hn) h1 h63 hbytes (by simp;omega) ?_;intro v' w' hown' hg _;obtain⟨A',c',rfl,_⟩:=own_form hown';exact h A' c' w' hown' hg
def st7(W:World)(g:Nat)(a b c d e f h:Value):World:=
 ((((((W.setCell ⟨g,0,none⟩ a).setCell ⟨g,1,none⟩ b).setCell ⟨g,2,none⟩ c).setCell ⟨g,3,none⟩ d).setCell ⟨g,4,none⟩ e).setCell ⟨g,5,none⟩ f).setCell ⟨g,6,none⟩ h
theorem st7_blk(hk:Blk W g te #[v0,v1,v2,v3,v4,v5,v6]):Blk (st7 W g a b c d e f h) g te #[a,b,c,d,e,f,h]:=by
 have k0:=ξ (blk_set hk 0 a);have k1:=ξ (blk_set k0 1 b);have k2:=ξ (blk_set k1 2 c);have k3:=ξ (blk_set k2 3 d);have k4:=ξ (blk_set k3 4 e);have k5:=ξ (blk_set k4 5 f);have k6:=ξ (blk_set k5 6 h);exact k6
theorem st7_below{B:Nat}{w0:World}(hb:Below B w0 W)(hg:B≤g):Below B w0 (st7 W g a b c d e f h):=
 ((((((hb.setCell (p:=⟨g,0,none⟩) hg a).setCell (p:=⟨g,1,none⟩) hg b).setCell (p:=⟨g,2,none⟩) hg c).setCell (p:=⟨g,3,none⟩) hg d).setCell (p:=⟨g,4,none⟩) hg e).setCell (p:=⟨g,5,none⟩) hg f).setCell (p:=⟨g,6,none⟩) hg h
theorem st7_own{e:TypeId}{e':Value}(ho:W.ownsRow base e size v n xs)(hg:g<base):(st7 W g a b c d e' f h).ownsRow base e size v n xs:=
 ownsRow_setCell_below (ownsRow_setCell_below (ownsRow_setCell_below (ownsRow_setCell_below (ownsRow_setCell_below (ownsRow_setCell_below (ownsRow_setCell_below ho (a:=⟨g,0,none⟩) hg a) (a:=⟨g,1,none⟩) hg b) (a:=⟨g,2,none⟩) hg c) (a:=⟨g,3,none⟩) hg d) (a:=⟨g,4,none⟩) hg e') (a:=⟨g,5,none⟩) hg f) (a:=⟨g,6,none⟩) hg h
theorem st7_cells(hk:Blk W g te #[v0,v1,v2,v3,v4,v5,v6]):
  (st7 W g a b c d e f h).cell? ⟨g,0,none⟩=some a∧(st7 W g a b c d e f h).cell? ⟨g,1,none⟩=some b∧(st7 W g a b c d e f h).cell? ⟨g,2,none⟩=some c∧(st7 W g a b c d e f h).cell? ⟨g,3,none⟩=some d∧
  (st7 W g a b c d e f h).cell? ⟨g,4,none⟩=some e∧(st7 W g a b c d e f h).cell? ⟨g,5,none⟩=some f∧(st7 W g a b c d e f h).cell? ⟨g,6,none⟩=some h:=
 have k:=st7_blk (a:=a) (b:=b) (c:=c) (d:=d) (e:=e) (f:=f) (h:=h) hk
 ⟨k.cell 0,k.cell 1,k.cell 2,k.cell 3,k.cell 4,k.cell 5,k.cell 6⟩
def MadeCf(sh wi ra ta:Int)(nd:List (Int×Int))(ac:List Int)(sy:List (Int×Int×Int×Nat))(w:World)(e:Ending)(w':World):Prop:=
 ∃A B C c d f,e= .returned (.agg #[.int .i64 sh,.int .i64 wi,.int .i64 ra,.int .i64 ta,.slice A nd.length c,.slice B ac.length d,.slice C sy.length f])∧Nds w' w'.heap.size A nd∧Ris w' w'.heap.size B ac∧Smb w' w'.heap.size C sy∧Below w.heap.size w w'
theorem madeCf_mk{sh wi ra ta:Int}{nd:List (Int×Int)}{ac:List Int}{sy:List (Int×Int×Int×Nat)}{A B C:Option Addr}{m k c d f:Nat}{w':World}(h1:n=nd.length)(h2:m=ac.length)(h3:k=sy.length)
  (hn:Nds w' w'.heap.size A nd)(ha:Ris w' w'.heap.size B ac)(hs:Smb w' w'.heap.size C sy)(hb:Below w.heap.size w w'):
  MadeCf sh wi ra ta nd ac sy w (.returned (.agg #[.int .i64 sh,.int .i64 wi,.int .i64 ra,.int .i64 ta,.slice A n c,.slice B m d,.slice C k f])) w':=by
 subst h1;subst h2;subst h3;exact⟨A,B,C,c,d,f,rfl,hn,ha,hs,hb⟩
theorem sym_info:(Tryz.prog.info? 87).map (fun i=>(i.zero,i.size,i.bytes))=some (some (.agg #[.int .i64 0,.int .i64 0,.int .i64 0,.float .f64 0]),4,32):=by kernel_rfl
end St7
namespace Mdc
open Abv Fix3 Cfg Crd Rr4 Bkp Bks Bcl Stk Apt Bko
theorem smbs_one(l:List (Int×Int×Int×Nat)): ∀u∈smbs l,u.oneCell'=true:=by
 intro u hu;simp only[smbs,List.mem_flatMap]at hu;obtain⟨e,_,he⟩:=hu;simp only[syV,List.mem_cons,List.not_mem_nil,or_false]at he;rcases he with rfl|rfl|rfl|rfl<;>rfl
theorem infoD:(Tryz.prog.info? 141).map (fun i=>(i.zero,i.size,i.bytes))=some (some (.agg #[.int .i64 0,.int .i64 0]),2,16):=by kernel_rfl
theorem cloneD(A:Option Addr)(n c:Nat)(l:List (Int×Int))(w:World)(hn:Hid (n=l.length))(hl:Hid (Rd w w.heap.size A (nds l)))(hmax:(n:Int)≤1000000):
  Calls Tryz.prog 54 #[.slice A n c] w (MadeOw 141 2 n (nds l) w):=by
 obtain⟨i0,hi,hz0,hz1,hz2⟩:=info_parts infoD;have hq:=fun(W:World) (n c:Nat)=>Lib.run_eql_slice_nil (P:=Tryz.prog) W 37 141 A n c 0 0 Tryz.underlying37
 have hln:Hid ((nds l).length=n*2):=by show _=_;rw[hn.out];exact nds_len l
 cases A with
 |none=>
  have hl0:nds l=[]:=by
   rcases hl.out with h|⟨b,o,h,_⟩
   ·exact h
   ·cases h
  have hn0:n=0:=by have:=hln.out;rw[hl0]at this;simp at this;omega
  have HL:=κ hl0;clear hn hln hl0;subst hn0
  go_enter Tryz.func54,Tryz.ntmps54
  go_wp2_with fail
  go_ret;rw[HL.out];exact⟨none,0,rfl,World.ownsRow_nil _ _ _ _,Below.refl _ _⟩
 |some ad=>
  have hl1:Hid (Rd (w.alloc (.cells #[] 141)) w.heap.size (some ad) (nds l)):=Rd.below hl.out (ψ.alloc τ _);have how:Hid ((w.alloc (.cells #[] 141)).ownsRow w.heap.size 141 2 (.slice (some (α w.heap.size 0)) 0 0) 0 []):=own_empty (Blk.fresh w _ _) τ;have hb0:=β w (.cells #[] 141)
  go_enter Tryz.func54,Tryz.ntmps54
  go_wp2_with (at_builtin;go_loud (refine wpList_appR (nm:=n) how hb0 hl1 (by simp) rfl _ _ _ rfl i0 (.agg #[.int .i64 0,.int .i64 0]) 16 Tryz.underlying37 hi hz0 hz1 hz2 rfl (by decide) rfl rfl hln.out (nds_one l) (by unfold maxLen;omega) (by omega) τ (by simp) (by simp) ?_);intro A1 c1 w1 hown1 hbel1 hsz1)
  go_ret;exact⟨A1,c1,rfl,hown1,hbel1⟩
theorem infoM:(Tryz.prog.info? 3).map (fun i=>(i.zero,i.size,i.bytes))=some (some (.int .i64 0),1,8):=by kernel_rfl
theorem cloneM(A:Option Addr)(n c:Nat)(l:List Int)(w:World)(hn:Hid (n=l.length))(hl:Hid (Rd w w.heap.size A (ints l)))(hmax:(n:Int)≤1000000):
  Calls Tryz.prog 61 #[.slice A n c] w (MadeOw 3 1 n (ints l) w):=by
 obtain⟨i0,hi,hz0,hz1,hz2⟩:=info_parts infoM;have hq:=fun(W:World) (n c:Nat)=>Lib.run_eql_slice_nil (P:=Tryz.prog) W 23 3 A n c 0 0 Tryz.underlying23
 have hln:Hid ((ints l).length=n*1):=by show _=_;rw[hn.out];exact ints_len1 l
 cases A with
 |none=>
  have hl0:ints l=[]:=by
   rcases hl.out with h|⟨b,o,h,_⟩
   ·exact h
   ·cases h
  have hn0:n=0:=by have:=hln.out;rw[hl0]at this;simp at this;omega
  have HL:=κ hl0;clear hn hln hl0;subst hn0
  go_enter Tryz.func61,Tryz.ntmps61
  go_wp2_with fail
  go_ret;rw[HL.out];exact⟨none,0,rfl,World.ownsRow_nil _ _ _ _,Below.refl _ _⟩
 |some ad=>
  have hl1:Hid (Rd (w.alloc (.cells #[] 3)) w.heap.size (some ad) (ints l)):=Rd.below hl.out (ψ.alloc τ _);have how:Hid ((w.alloc (.cells #[] 3)).ownsRow w.heap.size 3 1 (.slice (some (α w.heap.size 0)) 0 0) 0 []):=own_empty (Blk.fresh w _ _) τ;have hb0:=β w (.cells #[] 3)
  go_enter Tryz.func61,Tryz.ntmps61
  go_wp2_with (at_builtin;go_loud (refine wpList_appR (nm:=n) how hb0 hl1 (by simp) rfl _ _ _ rfl i0 (.int .i64 0) 8 Tryz.underlying23 hi hz0 hz1 hz2 rfl (by decide) rfl rfl hln.out (ints_one l) (by unfold maxLen;omega) (by omega) τ (by simp) (by simp) ?_);intro A1 c1 w1 hown1 hbel1 hsz1)
  go_ret;exact⟨A1,c1,rfl,hown1,hbel1⟩
theorem infoY:(Tryz.prog.info? 100).map (fun i=>(i.zero,i.size,i.bytes))=some (some (.agg #[.int .i64 0,.int .i64 0,.int .i64 0,.float .f64 0]),4,32):=by kernel_rfl
theorem cloneY(A:Option Addr)(n c:Nat)(l:List (Int×Int×Int×Nat))(w:World)(hn:Hid (n=l.length))(hl:Hid (Rd w w.heap.size A (smbs l)))(hmax:(n:Int)≤1000000):
  Calls Tryz.prog 62 #[.slice A n c] w (MadeOw 100 4 n (smbs l) w):=by
 obtain⟨i0,hi,hz0,hz1,hz2⟩:=info_parts infoY;have hq:=fun(W:World) (n c:Nat)=>Lib.run_eql_slice_nil (P:=Tryz.prog) W 38 100 A n c 0 0 Tryz.underlying38
 have hln:Hid ((smbs l).length=n*4):=by show _=_;rw[hn.out];exact smbs_len l
 cases A with
 |none=>
  have hl0:smbs l=[]:=by
   rcases hl.out with h|⟨b,o,h,_⟩
   ·exact h
   ·cases h
  have hn0:n=0:=by have:=hln.out;rw[hl0]at this;simp at this;omega
  have HL:=κ hl0;clear hn hln hl0;subst hn0
  go_enter Tryz.func62,Tryz.ntmps62
  go_wp2_with fail
  go_ret;rw[HL.out];exact⟨none,0,rfl,World.ownsRow_nil _ _ _ _,Below.refl _ _⟩
 |some ad=>
  have hl1:Hid (Rd (w.alloc (.cells #[] 100)) w.heap.size (some ad) (smbs l)):=Rd.below hl.out (ψ.alloc τ _);have how:Hid ((w.alloc (.cells #[] 100)).ownsRow w.heap.size 100 4 (.slice (some (α w.heap.size 0)) 0 0) 0 []):=own_empty (Blk.fresh w _ _) τ;have hb0:=β w (.cells #[] 100)
  go_enter Tryz.func62,Tryz.ntmps62
  go_wp2_with (at_builtin;go_loud (refine wpList_appR (nm:=n) how hb0 hl1 (by simp) rfl _ _ _ rfl i0 (.agg #[.int .i64 0,.int .i64 0,.int .i64 0,.float .f64 0]) 32 Tryz.underlying38 hi hz0 hz1 hz2 rfl (by decide) rfl rfl hln.out (smbs_one l) (by unfold maxLen;omega) (by omega) τ (by simp) (by simp) ?_);intro A1 c1 w1 hown1 hbel1 hsz1)
  go_ret;exact⟨A1,c1,rfl,hown1,hbel1⟩
theorem own_st7{w:World}{base:Nat}{e te:TypeId}{size n g:Nat}{v:Value}{xs:List Value}{u0 u1 u2 u3 u4 u5 u6 v0 v1 v2 v3 v4 v5 v6:Value}(h:w.ownsRow base e size v n xs)(hk:Blk w g te #[u0,u1,u2,u3,u4,u5,u6])(hne:e≠te):
  (st7 w g v0 v1 v2 v3 v4 v5 v6).ownsRow base e size v n xs:=by
 have k1:=ξ (blk_st hk 0 v0);have k2:=ξ (blk_st k1 1 v1);have k3:=ξ (blk_st k2 2 v2);have k4:=ξ (blk_st k3 3 v3);have k5:=ξ (blk_st k4 4 v4);have k6:=ξ (blk_st k5 5 v5);exact(own_st (own_st (own_st (own_st (own_st (own_st (own_st h hk hne 0 v0) k1 hne 1 v1) k2 hne 2 v2) k3 hne 3 v3) k4 hne 4 v4) k5 hne 5 v5) k6 hne 6 v6)
def MadeCo(sh wi ra ta:Int)(nl al sl:Nat)(nd:List (Int×Int))(ac:List Int)(sy:List (Int×Int×Int×Nat))(w:World)(e:Ending)(w':World):Prop:=
 ∃A B C c d f,e= .returned (.agg #[.int .i64 sh,.int .i64 wi,.int .i64 ra,.int .i64 ta,.slice A nl c,.slice B al d,.slice C sl f])∧Nds w' w'.heap.size A nd∧Ris w' w'.heap.size B ac∧Smb w' w'.heap.size C sy∧(∀a,A=some a→w.heap.size≤a.block)∧(∀a,B=some a→w.heap.size≤a.block)∧(∀a,C=some a→w.heap.size≤a.block)∧Below w.heap.size w w'
theorem owncfg_any(sh wi ra ta:Int)(A B C:Option Addr)(nl al sl c d f:Nat)(nd:List (Int×Int))(ac:List Int)(sy:List (Int×Int×Int×Nat))(w:World)(h1:Hid (nl=nd.length))(h2:Hid (al=ac.length))(h3:Hid (sl=sy.length))
  (hn:Hid (Nds w w.heap.size A nd))(ha:Hid (Ris w w.heap.size B ac))(hs:Hid (Smb w w.heap.size C sy))(m1:nl≤100000)(m2:al≤100000)(m3:sl≤100000):
  Calls Tryz.prog 24 #[.agg #[.int .i64 sh,.int .i64 wi,.int .i64 ra,.int .i64 ta,.slice A nl c,.slice B al d,.slice C sl f]] w (MadeCo sh wi ra ta nl al sl nd ac sy w):=by
 have b0:=κ (γ w (.cells (vC sh wi ra ta A nl c B al d C sl f) 40) (.cells (vC 0 0 0 0 none 0 0 none 0 0 none 0 0) 40));have K0:=κ ((Blk.fresh w 40 (vC sh wi ra ta A nl c B al d C sl f)).alloc (.cells (vC 0 0 0 0 none 0 0 none 0 0 none 0 0) 40));have R0:=κ (δ (w.alloc (.cells (vC sh wi ra ta A nl c B al d C sl f) 40)) 40 (vC 0 0 0 0 none 0 0 none 0 0 none 0 0) (w.heap.size+1))
 go_enter Tryz.func24,Tryz.ntmps24
 go_upto_region 1 with fail
 generalize ((w.alloc (.cells (vC sh wi ra ta A nl c B al d C sl f) 40)).alloc (.cells (vC 0 0 0 0 none 0 0 none 0 0 none 0 0) 40))=w0 at b0 K0 R0 ⊢;obtain⟨gB,hgB⟩:=ν w.heap.size;obtain⟨gZ,hgR⟩:=ν (w.heap.size+1);have hBR:Hid (gZ≠gB):=by show _≠_;omega
 have hLB:Hid (w.heap.size≤gB):=by show _≤_;omega
 have hLR:Hid (w.heap.size≤gZ):=by show _≤_;omega
 have K1:=κ (ζ hgB K0.out);have R1:=κ (ζ hgR R0.out);simp only[←hgR];simp only[←hgB];clear hgB hgR K0 R0;obtain⟨k0,k1,k2,k3,k4,k5,k6⟩:=q7_of K1.out
 go_wp2_with fail
 refine(cloneD A nl c nd _ h1 (Rd.below' hn.out b0.out b0.out.size) (by omega)).mono ?_;rintro e w1 ⟨A1,c1,rfl,how,hb1⟩;have KK:=κ (Blk.below' K1.out hb1);have RR:=κ (Blk.below' R1.out hb1);obtain⟨x0,x1,x2,x3,x4,x5,x6,f0,f1',f2,f3,f4,f5,f6⟩:=z7_of KK.out;have K2:=κ (ξ (blk_st KK.out 4 (.slice A1 nl c1)));have R2:Hid (Blk (w1.setCell (α gB 4) (.slice A1 nl c1)) gZ 40 (vC 0 0 0 0 none 0 0 none 0 0 none 0 0)):=far_st RR.out hBR.out _;have b2:Hid (Below w.heap.size w (w1.setCell (α gB 4) (.slice A1 nl c1))):=(below_step b0.out hb1).setCell (p:=(α gB 4)) hLB.out _;have n1:Hid (((w1.setCell (α gB 4) (.slice A1 nl c1))).ownsRow w.heap.size 141 2 (.slice A1 nl c1) nl (nds nd)):=own_st (own_mono how b0.out.size) KK.out (by decide) 4 _
 go_upto_region 2 with fail
 clear k0 k1 k2 k3 k4 k5 k6 x0 x1 x2 x3 x4 x5 x6 f0 f1' f2 f3 f4 f5 f6 KK RR how hb1 K1 R1 b0;generalize (w1.setCell (α gB 4) (.slice A1 nl c1))=w2 at K2 R2 b2 n1 ⊢;obtain⟨k0,k1,k2,k3,k4,k5,k6⟩:=q7_of K2.out
 go_wp2_with fail
 refine(cloneM B al d ac _ h2 (Rd.below' ha.out b2.out b2.out.size) (by omega)).mono ?_;rintro e w3 ⟨B1,d1,rfl,how,hb1⟩;have KK:=κ (Blk.below' K2.out hb1);have RR:=κ (Blk.below' R2.out hb1);obtain⟨x0,x1,x2,x3,x4,x5,x6,f0,f1',f2,f3,f4,f5,f6⟩:=z7_of KK.out;have K3:=κ (ξ (blk_st KK.out 5 (.slice B1 al d1)));have R3:Hid (Blk (w3.setCell (α gB 5) (.slice B1 al d1)) gZ 40 (vC 0 0 0 0 none 0 0 none 0 0 none 0 0)):=far_st RR.out hBR.out _;have b4:Hid (Below w.heap.size w (w3.setCell (α gB 5) (.slice B1 al d1))):=(below_step b2.out hb1).setCell (p:=(α gB 5)) hLB.out _;have n2:Hid (((w3.setCell (α gB 5) (.slice B1 al d1))).ownsRow w.heap.size 3 1 (.slice B1 al d1) al (ints ac)):=own_st (own_mono how b2.out.size) KK.out (by decide) 5 _;have n1':Hid (((w3.setCell (α gB 5) (.slice B1 al d1))).ownsRow w.heap.size 141 2 (.slice A1 nl c1) nl (nds nd)):=own_st (own_below n1 hb1) KK.out (by decide) 5 _
 go_upto_region 3 with fail
 clear k0 k1 k2 k3 k4 k5 k6 x0 x1 x2 x3 x4 x5 x6 f0 f1' f2 f3 f4 f5 f6 KK RR how hb1 K2 R2 b2 n1;generalize (w3.setCell (α gB 5) (.slice B1 al d1))=w4 at K3 R3 b4 n2 n1' ⊢;have n1:=n1';clear n1';obtain⟨k0,k1,k2,k3,k4,k5,k6⟩:=q7_of K3.out
 go_wp2_with fail
 refine(cloneY C sl f sy _ h3 (Rd.below' hs.out b4.out b4.out.size) (by omega)).mono ?_;rintro e w5 ⟨C1,f1,rfl,how,hb1⟩;have KK:=κ (Blk.below' K3.out hb1);have RR:=κ (Blk.below' R3.out hb1);obtain⟨x0,x1,x2,x3,x4,x5,x6,f0,f1',f2,f3,f4,f5,f6⟩:=z7_of KK.out;have K4:=κ (ξ (blk_st KK.out 6 (.slice C1 sl f1)));have R4:Hid (Blk (w5.setCell (α gB 6) (.slice C1 sl f1)) gZ 40 (vC 0 0 0 0 none 0 0 none 0 0 none 0 0)):=far_st RR.out hBR.out _;have b6:Hid (Below w.heap.size w (w5.setCell (α gB 6) (.slice C1 sl f1))):=(below_step b4.out hb1).setCell (p:=(α gB 6)) hLB.out _;have n3:Hid (((w5.setCell (α gB 6) (.slice C1 sl f1))).ownsRow w.heap.size 100 4 (.slice C1 sl f1) sl (smbs sy)):=own_st (own_mono how b4.out.size) KK.out (by decide) 6 _;have n1':Hid (((w5.setCell (α gB 6) (.slice C1 sl f1))).ownsRow w.heap.size 141 2 (.slice A1 nl c1) nl (nds nd)):=own_st (own_below n1 hb1) KK.out (by decide) 6 _;have n2':Hid (((w5.setCell (α gB 6) (.slice C1 sl f1))).ownsRow w.heap.size 3 1 (.slice B1 al d1) al (ints ac)):=own_st (own_below n2 hb1) KK.out (by decide) 6 _
 go_upto_region 4 with fail
 clear k0 k1 k2 k3 k4 k5 k6 x0 x1 x2 x3 x4 x5 x6 f0 f1' f2 f3 f4 f5 f6 KK RR how hb1 K3 R3 b4 n1 n2;generalize (w5.setCell (α gB 6) (.slice C1 sl f1))=w6 at K4 R4 b6 n3 n1' n2' ⊢;have n1:=n1';clear n1';have n2:=n2';clear n2';have F3:Blk (st7 w6 gZ (ι sh) (ι wi) (ι ra) (ι ta) (.slice A1 nl c1) (.slice B1 al d1) (.slice C1 sl f1)) gZ 40 (vC sh wi ra ta A1 nl c1 B1 al d1 C1 sl f1):=st7_blk R4.out
 have hfin:MadeCo sh wi ra ta nl al sl nd ac sy w (.returned (.agg (vC sh wi ra ta A1 nl c1 B1 al d1 C1 sl f1))) (st7 w6 gZ (ι sh) (ι wi) (ι ra) (ι ta) (.slice A1 nl c1) (.slice B1 al d1) (.slice C1 sl f1)):=
  ⟨A1,B1,C1,c1,d1,f1,rfl,Rd.of_own (own_st7 n1.out R4.out (by decide)),Rd.of_own (own_st7 n2.out R4.out (by decide)),Rd.of_own (own_st7 n3.out R4.out (by decide)),own_fresh n1.out,own_fresh n2.out,own_fresh n3.out,st7_below b6.out hLR.out⟩
 have HF:=κ hfin;clear hfin;obtain⟨k0,k1,k2,k3,k4,k5,k6⟩:=q7_of K4.out;obtain⟨z0,z1,z2,z3,z4,z5,z6,f0,f1',f2,f3,f4,f5,f6⟩:=z7_of R4.out
 go_wp2_with fail
 obtain⟨e0,e1,e2,e3,e4,e5,e6⟩:=q7_of F3;clear F3;unfold st7 at e0 e1 e2 e3 e4 e5 e6 HF;exact bodyPost_ret (v:= .agg #[ι sh,ι wi,ι ra,ι ta,.slice A1 nl c1,.slice B1 al d1,.slice C1 sl f1]) (by simp[results,Tryz.results24,go_sem,e0,e1,e2,e3,e4,e5,e6]) rfl HF.out
end Mdc
namespace Bkj
open Abv Crd Bkp Bks Bcl Stk
def zRow:Array Value:= #[.slice none 0 0,.int .i64 0,.int .i64 0]
theorem made_rows(n:Nat):(madeCells zRow (n*3)).toList=rcs (List.replicate n rc0):=by
 apply List.ext_getElem?;intro i;by_cases h:i<n*3
 ·have e1:(rcs (List.replicate n rc0))[i]? =(rcV rc0)[i%3]? :=by
   have h3:=rcs_get (List.replicate n rc0) (i / 3) (i%3) (by rw[List.length_replicate];omega) (by omega)
   have e2:gC (List.replicate n rc0) (i / 3)=rc0:=by
    have:i / 3<n:=by omega
    simp[gC,this]
   rw[e2]at h3;rw[←h3]
   congr 1
   omega
  rw[e1]
  have e4:(madeCells zRow (n*3)).toList[i]? =some (zRow[i%3]!):=by
   unfold madeCells;have e5:zRow.size=3:=rfl;simp[e5,h]
  rw[e4];rcases(by omega:i%3=0∨i%3=1∨i%3=2) with h0|h0|h0<;>rw[h0]<;>rfl
 ·rw[List.getElem?_eq_none (by simp[madeCells];omega),List.getElem?_eq_none (by rw[rcs_len,List.length_replicate];omega)]
def beginF(n:Nat)(sh:Int):Bk:=⟨sh,0,List.replicate n ro0,[]⟩
end Bkj
end Go.Proofs.YtfbajlcljfjbkaaGreat
