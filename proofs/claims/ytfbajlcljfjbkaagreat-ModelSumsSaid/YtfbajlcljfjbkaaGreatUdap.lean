/- Texts side by side. -/
import Derived.Test.YtfbajlcljfjbkaaGreatUdao
set_option linter.unusedVariables false
set_option linter.unusedSimpArgs false
set_option maxRecDepth 100000
set_option maxHeartbeats 16000000
namespace Go.Proofs.YtfbajlcljfjbkaaGreat
open Kap Go.RowKit Mem Tre Ref3 Law3 Fix3 Bnd Flo Cfg CrdB CrdC St7 Fcf Fown Rul7
namespace Tl5
open Abv Go.ChangeShapes Go.WideShapes Go.ChangeAt Opn Rr4 Fr4 Rul1 Rul3 Rul6
attribute [local go_sem] run_store_float
structure CfV(W:World)(g:Nat)(te:TypeId)(A B C:Option Addr)(sh wi ra ta:Int)(n m k c d f:Nat)(nd:List (Int×Int))(ac:List Int)(sy:List (Int×Int×Int×Nat)):Prop where
 blk:Blk W g te #[.int .i64 sh,.int .i64 wi,.int .i64 ra,.int .i64 ta,.slice A n c,.slice B m d,.slice C k f]
 nds:Nds W W.heap.size A nd
 ris:Ris W W.heap.size B ac
 smb:Smb W W.heap.size C sy
variable {ra sh ta wi:Int} {nd:List (Int×Int)} {sy:List (Int×Int×Int×Nat)} {ac:List Int} {c d f g k m n:Nat} {A B C:Option Addr} {te:TypeId} {W:World}
theorem CfV.below{W':World}(h:CfV W g te A B C sh wi ra ta n m k c d f nd ac sy)(hb:Below W.heap.size W W'):CfV W' g te A B C sh wi ra ta n m k c d f nd ac sy:=
 ⟨Blk.below' h.blk hb,Rd.below' h.nds hb hb.size,Rd.below' h.ris hb hb.size,Rd.below' h.smb hb hb.size⟩
theorem CfV.alloc(h:CfV W g te A B C sh wi ra ta n m k c d f nd ac sy)(o:Obj):CfV (W.alloc o) g te A B C sh wi ra ta n m k c d f nd ac sy:=
 h.below (ψ.alloc τ _)
def C7(W:World)(g:Nat)(v0 v1 v2 v3 v4 v5 v6:Value):Prop:=
 W.cell? ⟨g,0,none⟩=some v0∧W.cell? ⟨g,1,none⟩=some v1∧W.cell? ⟨g,2,none⟩=some v2∧W.cell? ⟨g,3,none⟩=some v3∧W.cell? ⟨g,4,none⟩=some v4∧W.cell? ⟨g,5,none⟩=some v5∧W.cell? ⟨g,6,none⟩=some v6
theorem c7_of{v0 v1 v2 v3 v4 v5 v6:Value}(hk:Blk W g te #[v0,v1,v2,v3,v4,v5,v6]):
  W.cell? ⟨g,0,none⟩=some v0∧W.cell? ⟨g,1,none⟩=some v1∧W.cell? ⟨g,2,none⟩=some v2∧W.cell? ⟨g,3,none⟩=some v3∧W.cell? ⟨g,4,none⟩=some v4∧W.cell? ⟨g,5,none⟩=some v5∧W.cell? ⟨g,6,none⟩=some v6:=
 ⟨hk.cell 0,hk.cell 1,hk.cell 2,hk.cell 3,hk.cell 4,hk.cell 5,hk.cell 6⟩
theorem wfn_fix(nd:List (Int×Int)):WfN (fixF nd):=okt_wf (okt_fixF nd) (by have:=fixF_len nd;omega)
theorem wfi_fix(h:1≤n)(h':n≤1000):WfI (fixA n ac):=by
 intro i hi;have h2:=fixA_in (n:=n) (ac:=ac) h h';unfold accB at h2;have:=inR_of (of_decide_eq_true h2 i hi);exact⟨by omega,by omega⟩
theorem wfs_fix(hw:WfS sy):WfS (fixS sy):=by
 intro i hi;unfold fixS at hi ⊢;split at hi
 ·rename_i h0
  rw[if_pos h0];have:i=0:=by simp at hi;omega
  subst this;exact⟨⟨by decide,by decide⟩,⟨by decide,by decide⟩,⟨by decide,by decide⟩,by decide⟩
 ·rename_i h0
  rw[if_neg h0];have hl:i<(sy.take 3).length:=by simpa using hi
  have hl2:i<sy.length:=by rw[List.length_take]at hl;omega
  have e:((sy.take 3).map oneS).getD i (0,0,0,0)=oneS ((sy.take 3)[i]):=getD_map hl;have e2:(sy.take 3)[i]=sy[i]:=by simp
  have e3:sy.getD i (0,0,0,0)=sy[i]:=by simp[hl2]
  obtain⟨_,_,h2,h3⟩:=hw i hl2;unfold sW at h2;unfold sB at h3;rw[e3]at h2 h3;unfold sP sQ sW sB;rw[e,e2];have k1:=modF_bd (x:=sy[i].1) (m:=1099511627776) (by decide) (by decide);have k2:=modF_bd (x:=sy[i].2.1) (m:=1099511627776) (by decide) (by decide);unfold oneS;refine⟨⟨by show _≤1+_;omega,by show 1+_≤_;omega⟩,⟨by show _≤1+_;omega,by show 1+_≤_;omega⟩,?_,?_⟩
  ·show inI (if _ then _ else _);split
   ·exact⟨by decide,by decide⟩
   ·exact h2
  ·show(if _ then _ else _)<_;split
   ·exact h3
   ·decide
end Tl5
namespace Gdc
open Tl5
structure GoodC(sh wi ra ta:Int)(nd:List (Int×Int))(ac:List Int)(sy:List (Int×Int×Int×Nat)):Prop where
 cfg:cfgF sh wi ra ta nd ac sy=0
 wn:WfN nd
 wa:WfI ac
 ws:WfS sy
 n1:1≤nd.length
 n2:nd.length≤10
 a1:1≤ac.length
 a2:ac.length≤5
 s1:1≤sy.length
 s2:sy.length≤3
 h1:1≤sh
 h2:sh≤3
 w1:0≤wi
 w2:wi≤3
 r1:1≤ra
 r2:ra≤6
 t1:1≤ta
 t2:ta≤8
theorem good_fix(sh wi ra ta:Int)(nd:List (Int×Int))(ac:List Int)(sy:List (Int×Int×Int×Nat))(hw:WfS sy):
  GoodC (1+modF sh 3) (modF wi 4) (1+modF ra 6) (1+modF ta 8) (fixF nd) (fixA (fixF nd).length ac) (fixS sy):=by
 have hn:=fixF_len nd;have ha:=fixA_len (n:=(fixF nd).length) (ac:=ac);have hs:=fixS_len (sy:=sy);have h1:=modF_bd (x:=sh) (m:=3) (by decide) (by decide);have h2:=modF_bd (x:=wi) (m:=4) (by decide) (by decide);have h3:=modF_bd (x:=ra) (m:=6) (by decide) (by decide);have h4:=modF_bd (x:=ta) (m:=8) (by decide) (by decide);exact⟨cfg_fix sh wi ra ta nd ac sy,wfn_fix nd,wfi_fix hn.1 (by omega),wfs_fix hw,hn.1,hn.2,ha.1,ha.2,hs.1,hs.2,by omega,by omega,by omega,by omega,by omega,by omega,by omega,by omega⟩
end Gdc
end Go.Proofs.YtfbajlcljfjbkaaGreat
