/- Texts side by side. -/
import Derived.Test.YtfbajlcljfjbkaaGreatUniaf
import Derived.Test.YtfbajlcljfjbkaaGreatUnian
set_option linter.unusedVariables false
set_option linter.unusedSimpArgs false
set_option maxRecDepth 100000
set_option maxHeartbeats 16000000
namespace Go.Proofs.YtfbajlcljfjbkaaGreat
open Kap Go.RowKit Mem Tre Ref3 Law3 Fix3
namespace Fcf
open Bnd Flo Cfg Crd CrdB CrdC Cpl
def modF(x m:Int):Int:=wrap64 ((IntKind.u64.wrap x).tmod m)
variable {sy:List (Int×Int×Int×Nat)} {ac:List Int} {n:Nat}
theorem modF_bd{x m:Int}(h:0<m)(h':m≤4611686018427387904):0≤modF x m∧modF x m<m:=by
 unfold modF;rw[wrap_u64,Int.tmod_eq_emod_of_nonneg (Int.emod_nonneg _ (by decide))];have a:=Int.emod_nonneg (x%18446744073709551616) (b:=m) (by omega);have b:=Int.emod_lt_of_pos (x%18446744073709551616) (b:=m) h;generalize x%18446744073709551616%m=r at *;unfold wrap64;omega
theorem getD_map{α β:Type}{l:List α}{f:α→β}{i:Nat}{d:β}(h:i<l.length):(l.map f).getD i d=f l[i]:=by simp[h]
def fixA(n:Nat)(ac:List Int):List Int:=if ac.length=0 then [(n:Int)-1] else (ac.take 5).map fun a=>modF a n
def oneS(p:Int×Int×Int×Nat):Int×Int×Int×Nat:=
 (1+modF p.1 1099511627776,1+modF p.2.1 1099511627776,if p.2.2.1<0 then 9223372036854775807 else p.2.2.1,if rightB p.2.2.2=true then p.2.2.2 else 4602678819172646912)
def fixS(sy:List (Int×Int×Int×Nat)):List (Int×Int×Int×Nat):=if sy.length=0 then [(10,100,1000,4602678819172646912)] else (sy.take 3).map oneS
theorem fixA_len:1≤(fixA n ac).length∧(fixA n ac).length≤5:=by
 unfold fixA;split
 ·simp
 ·rw[List.length_map,List.length_take];omega
theorem fixS_len:1≤(fixS sy).length∧(fixS sy).length≤3:=by
 unfold fixS;split
 ·simp
 ·rw[List.length_map,List.length_take];omega
theorem fixA_in(h:1≤n)(h':n≤1000):accB n (fixA n ac)=true:=by
 refine accB_t fun i hi=>?_
 unfold fixA at hi ⊢;split at hi
 ·rename_i h0
  rw[if_pos h0];have:i=0:=by simp at hi;omega
  subst this;exact inR_t (show 0≤(n:Int)-1 by omega) (show(n:Int)-1<n by omega)
 ·rename_i h0
  rw[if_neg h0];have hl:i<(ac.take 5).length:=by simpa using hi
  have e:gI ((ac.take 5).map fun a=>modF a n) i=modF ((ac.take 5)[i]) n:=getD_map hl;rw[e];have:=modF_bd (x:=(ac.take 5)[i]) (m:=(n:Int)) (by omega) (by omega);exact inR_t this.1 this.2
theorem half_right:rightB 4602678819172646912=true:=by decide+kernel
theorem one_ok(p:Int×Int×Int×Nat):symB (oneS p).1 (oneS p).2.1 (oneS p).2.2.1 (oneS p).2.2.2=true:=by
 have h1:=modF_bd (x:=p.1) (m:=1099511627776) (by decide) (by decide);have h2:=modF_bd (x:=p.2.1) (m:=1099511627776) (by decide) (by decide);unfold symB btwB oneS;simp only[Bool.and_eq_true,decide_eq_true_eq];refine⟨⟨⟨⟨by omega,by omega⟩,⟨by omega,by omega⟩⟩,?_⟩,?_⟩
 ·split<;>omega
 ·split
  ·assumption
  ·exact half_right
theorem fixS_ok:tabB (fixS sy)=true:=by
 refine tabB_t fun i hi=>?_
 unfold fixS at hi ⊢;split at hi
 ·rename_i h0
  rw[if_pos h0];have:i=0:=by simp at hi;omega
  subst this;show symB 10 100 1000 4602678819172646912=true;unfold symB btwB;rw[half_right]
  decide
 ·rename_i h0
  rw[if_neg h0];have hl:i<(sy.take 3).length:=by simpa using hi
  have e:((sy.take 3).map oneS).getD i (0,0,0,0)=oneS ((sy.take 3)[i]):=getD_map hl;unfold sP sQ sW sB;rw[e];exact one_ok _
theorem siz_fix(sh wi ra ta:Int):sizB (1+modF sh 3) (modF wi 4) (1+modF ra 6) (1+modF ta 8)=true:=by
 have h1:=modF_bd (x:=sh) (m:=3) (by decide) (by decide);have h2:=modF_bd (x:=wi) (m:=4) (by decide) (by decide);have h3:=modF_bd (x:=ra) (m:=6) (by decide) (by decide);have h4:=modF_bd (x:=ta) (m:=8) (by decide) (by decide);unfold sizB btwB;simp only[Bool.and_eq_true,decide_eq_true_eq];omega
theorem cfg_fix(sh wi ra ta:Int)(nd:List (Int×Int))(ac:List Int)(sy:List (Int×Int×Int×Nat)):
  cfgF (1+modF sh 3) (modF wi 4) (1+modF ra 6) (1+modF ta 8) (fixF nd) (fixA (fixF nd).length ac) (fixS sy)=0:=by
 have hn:=fixF_len nd;have ha:=fixA_len (n:=(fixF nd).length) (ac:=ac);have hs:=fixS_len (sy:=sy);exact cfgF_7 (siz_fix sh wi ra ta) (by rw[okt_chk (okt_fixF nd) hn.1 (by omega)]) (by omega) (fixA_in hn.1 (by omega)) (by omega) fixS_ok
end Fcf
namespace Fown
open Abv Go.ChangeShapes Go.WideShapes Go.ChangeAt
def MadeNdsR(l:List (Int×Int))(w:World)(e:Ending)(w':World):Prop:= ∃A c,e= .returned (.slice A l.length c)∧w'.ownsRow w.heap.size 144 2 (.slice A l.length c) l.length (nds l)∧Below w.heap.size w w'
variable {w:World}
theorem madeNdsR_mk{xs ys:List (Int×Int)}{A:Option Addr}{c:Nat}{w':World}(h:ys=xs)(hr:w'.ownsRow w.heap.size 144 2 (.slice A xs.length c) xs.length (nds xs))(hb:Below w.heap.size w w'):MadeNdsR ys w (.returned (.slice A xs.length c)) w':=by
 subst h;exact⟨A,c,rfl,hr,hb⟩
theorem own_one{g:Nat}{te:TypeId}{base:Nat}{a b:Value}(h:Blk w g te #[a,b])(hb:base≤g):w.ownsRow base te 2 (.slice (some ⟨g,0,none⟩) 1 1) 1 [a,b]:=
 ⟨by simp,.inr ⟨g,1,#[a,b],rfl,hb,h,τ,by unfold maxLen;omega,by simp,by simp⟩⟩
theorem fix_own(A:Option Addr)(c:Nat)(l:List (Int×Int))(w:World)(hl:Hid (Nds w w.heap.size A l))(hw:Hid (WfN l))(hmax:(l.length:Int)≤9223372036854775807):
  Calls Tryz.prog 20 #[.slice A l.length c] w (MadeNdsR (fixF l) w):=by
 obtain⟨i0,hi,hz0,hz1,hz2⟩:=info_parts rnode_info
 go_enter Tryz.func20,Tryz.ntmps20
 go_wp2
 go_loopg [3,4] (min l.length 10) (fun g s3 s4 w'=> ∃(k:Nat) (A':Option Addr) (c':Nat),k+g=min l.length 10∧s4= ι k∧s3= .slice A' k c'∧Hid (w'.ownsRow w.heap.size 144 2 (.slice A' k c') k (nds (fixK l k)))∧Below w.heap.size w w')
 case atStart=>exact⟨0,none,0,by omega,rfl,rfl,World.ownsRow_nil _ _ _ _,Below.refl _ _⟩
 case round=>
  obtain⟨k,A',c',hk,rfl,rfl,hown,hbel⟩:=hrel;by_cases hlt:k<l.length∧k<10
  ·obtain⟨g,rfl⟩: ∃g,gk=g+1:=⟨gk-1,by omega⟩;obtain⟨b,o,rfl,hb,hc⟩:=Nds.at hl.out (by omega);have hc0:=(hbel.cell (p:=(α b (o+k*2))) hb).trans (hc k (by omega)).1;have hc1:=(hbel.cell (p:=(α b (o+k*2+1))) hb).trans (hc k (by omega)).2;obtain⟨hp,hcc⟩:=hw.out k (by omega);obtain⟨hp1,hp2⟩:=hp;obtain⟨hcc1,hcc2⟩:=hcc;obtain⟨hlt1,hlt2⟩:=hlt;have t1:decide ((k:Int)<10)=true:=by simp;omega
   have hblk:b<wr.heap.size:=by have:=hbel.size;omega
   have hc0':=fun X=>(World.cell?_alloc_lt wr X (α b (o+k*2)) hblk).trans hc0
   have HC:=κ hc;have HKK:=κ hk;clear hc hk hc0
   have hown1:Hid (Nds (wr.alloc (.cells (vI (nP l k%k) (wrap64 ((IntKind.u64.wrap (nC l k)).tmod 4611686018427387905))) 144)) (wr.alloc (.cells (vI (nP l k%k) (wrap64 ((IntKind.u64.wrap (nC l k)).tmod 4611686018427387905))) 144)).heap.size A' (fixK l k)):=
    Rd.of_own (World.ownsRow.alloc hown.out _)
   have hwk:=κ (okt_wf (okt_fixK l k) (by rw[fixK_len];omega));have hlk:=κ ((fixK_len l k).symm);have hmk:((fixK l k).length:Int)≤9223372036854775807:=by rw[fixK_len];omega
   by_cases hq:0<k∧0≤nP l k
   ·have hpp:=κ hq;obtain⟨hq1,hq2⟩:=hq;have hm1:=Int.emod_nonneg (nP l k) (b:=(k:Int)) (by omega);have hm2:=Int.emod_lt_of_pos (nP l k) (b:=(k:Int)) (by omega);obtain⟨m,hm⟩: ∃m:Int,m=nP l k%k:=⟨_,rfl⟩;have HM:=κ hm
    go_wp2_with fail
    refine(rpath_n _ _ _ (fixK l k) _ _ hlk.out hown1 hwk hmk ⟨by omega,by omega⟩).mono ?_;rintro e w1 ⟨A1,c1,rfl,hr1,hb1⟩;have hbk:=κ (Blk.below' (Blk.fresh wr _ _) hb1);have f0:=χ (hbk.out.cell 0);have f1:=χ (hbk.out.cell 1);have z0:=hbk.out.thaw 0;have hbw1:=(ψ.alloc τ _).trans (hb1.mono (by simp));have hbel1:=hbel.trans (hbw1.mono hbel.size);clear hr1 hb1 hown1;by_cases h3:3≤(pathF (fixK l k) 3 (nP l k%k)).length
    ·have h3':decide (3≤((pathF (fixK l k) 3 (nP l k%k)).length:Int))=true:=by simp;omega
     have hpre:Hid (nds (fixK l (k+1))=nds (fixK l k)++[ι (-1),ι (wrap64 ((IntKind.u64.wrap (nC l k)).tmod 4611686018427387905))]):=by
      show _=_;rw[fixK,nds_snoc,capE,fixP,if_pos hpp.out,if_pos h3]
     have hbw2:Below wr.heap.size wr (w1.setCell (α wr.heap.size 0) (ι (-1))):=hbw1.setCell τ _;have hbel1':=hbel.trans (hbw2.mono hbel.size);have hownA:=own_below hown hbw2;clear h3 hbel1 hbw1 hown
     go_wp2_with (first
      |(at_builtin;refine wpList_app1 hownA hbel1' rfl _ _ _ rfl i0 (.agg #[.int .i64 0,.int .i64 0]) 16 Tryz.underlying22 hi hz0 hz1 hz2 rfl (by decide) rfl rfl (by simp[World.setCell]) [.int .i64 (-1),.int .i64 (wrap64 ((IntKind.u64.wrap (nC l k)).tmod 4611686018427387905))] rfl rfl (by simp[Value.oneCell']) (by unfold maxLen;omega) (by omega) τ (hbel1').size (hbel1').size ?_;intro A2 c2 w2 hown2 hbel2 hsz2))
     go_roundg g
     case measure=>omega
     case rel=>exact⟨k+1,A2,c2,by have:=HKK.out;omega,by go_num,rfl,by rw[hpre.out];exact hown2,hbel2⟩
    ·have h3':decide (3≤((pathF (fixK l k) 3 (nP l k%k)).length:Int))=false:=by simp;omega
     have hpre:Hid (nds (fixK l (k+1))=nds (fixK l k)++[ι (nP l k%k),ι (wrap64 ((IntKind.u64.wrap (nC l k)).tmod 4611686018427387905))]):=by
      show _=_;rw[fixK,nds_snoc,capE,fixP,if_pos hpp.out,if_neg h3]
     have hownA:=own_below hown hbw1;clear h3 hbw1 hown
     go_wp2_with (first
      |(at_builtin;refine wpList_app1 hownA hbel1 rfl _ _ _ rfl i0 (.agg #[.int .i64 0,.int .i64 0]) 16 Tryz.underlying22 hi hz0 hz1 hz2 rfl (by decide) rfl rfl (by simp[World.setCell]) [.int .i64 (nP l k%k),.int .i64 (wrap64 ((IntKind.u64.wrap (nC l k)).tmod 4611686018427387905))] rfl rfl (by simp[Value.oneCell']) (by unfold maxLen;omega) (by omega) τ (hbel1).size (hbel1).size ?_;intro A2 c2 w2 hown2 hbel2 hsz2))
     go_roundg g
     case measure=>omega
     case rel=>exact⟨k+1,A2,c2,by have:=HKK.out;omega,by go_num,rfl,by rw[hpre.out];exact hown2,hbel2⟩
   ·have hpre:Hid (nds (fixK l (k+1))=nds (fixK l k)++[ι (-1),ι (wrap64 ((IntKind.u64.wrap (nC l k)).tmod 4611686018427387905))]):=by
     show _=_;rw[fixK,nds_snoc,capE,fixP,if_neg hq]
    have hbel1:=hbel.alloc hbel.size (.cells (vI (-1) (wrap64 ((IntKind.u64.wrap (nC l k)).tmod 4611686018427387905))) 144);have hownA:Hid ((wr.alloc (.cells (vI (-1) (wrap64 ((IntKind.u64.wrap (nC l k)).tmod 4611686018427387905))) 144)).ownsRow w.heap.size 144 2 (.slice A' k c') k (nds (fixK l k))):=World.ownsRow.alloc hown.out _;clear hown hown1;by_cases hq0:0<k
    ·have hq1:nP l k<0:=by omega
     have hq2:decide (0≤nP l k)=false:=by simp;omega
     clear hq
     go_wp2_with (first
      |(at_builtin;refine wpList_app1 hownA hbel1 rfl _ _ _ rfl i0 (.agg #[.int .i64 0,.int .i64 0]) 16 Tryz.underlying22 hi hz0 hz1 hz2 rfl (by decide) rfl rfl (by simp[World.setCell]) [.int .i64 (-1),.int .i64 (wrap64 ((IntKind.u64.wrap (nC l k)).tmod 4611686018427387905))] rfl rfl (by simp[Value.oneCell']) (by unfold maxLen;omega) (by omega) τ (hbel1).size (hbel1).size ?_;intro A2 c2 w2 hown2 hbel2 hsz2))
     go_roundg g
     case measure=>omega
     case rel=>exact⟨k+1,A2,c2,by have:=HKK.out;omega,by go_num,rfl,by rw[hpre.out];exact hown2,hbel2⟩
    ·have hq1:k=0:=by omega
     subst hq1;clear hq
     go_wp2_with (first
      |(at_builtin;refine wpList_app1 hownA hbel1 rfl _ _ _ rfl i0 (.agg #[.int .i64 0,.int .i64 0]) 16 Tryz.underlying22 hi hz0 hz1 hz2 rfl (by decide) rfl rfl (by simp[World.setCell]) [.int .i64 (-1),.int .i64 (wrap64 ((IntKind.u64.wrap (nC l 0)).tmod 4611686018427387905))] rfl rfl (by simp[Value.oneCell']) (by unfold maxLen;omega) (by omega) τ (hbel1).size (hbel1).size ?_;intro A2 c2 w2 hown2 hbel2 hsz2))
     go_roundg g
     case measure=>omega
     case rel=>exact⟨0+1,A2,c2,by have:=HKK.out;omega,by go_num,rfl,by rw[hpre.out];exact hown2,hbel2⟩
  ·have hgk:gk=0:=by omega
   have hkm:Hid (k=min l.length 10):=by show _=_;omega
   by_cases h0:l.length=0
   ·have hk0:k=0:=by omega
    subst hk0;have hres:Hid (fixF l=[(-1,1000)]):=by show _=_;rw[fixF,if_pos h0]
    have h1: ¬((0:Nat):Int)<l.length:=by omega
    have h0':(l.length:Int)≤0:=by omega
    clear h0 hlt
    go_wp2_with fail
    go_ret;have hb:=Blk.fresh wr 144 (vI (-1) 1000);exact madeNdsR_mk (xs:=[(-1,1000)]) hres.out (own_one hb hbel.size) (hbel.alloc hbel.size _)
   ·have hres:Hid (fixF l=fixK l k):=by show _=_;rw[fixF,if_neg h0,hkm.out]
    have hk0:((k:Int)==0)=false:=beq_eq_false_iff_ne.2 (by have:=hkm.out;omega);have hris:=κ hown.out
    have hfin:Hid (MadeNdsR (fixF l) w (.returned (.slice A' k c')) wr):=by
     have e:=fixK_len l k;have:=madeNdsR_mk (ys:=fixF l) (xs:=fixK l k) (A:=A') (c:=c') (w':=wr) hres.out (by rw[e];exact hris.out) hbel;rwa[e]at this
    by_cases hlt1:k<l.length
    ·have t1:decide ((k:Int)<10)=false:=by simp;omega
     clear hlt h0 hk hgk
     go_wp2_with fail
     go_ret;exact hfin.out
    ·have t1:(l.length:Int)≤k:=by omega
     clear hlt h0 hk hgk
     go_wp2_with fail
     go_ret;exact hfin.out
end Fown
end Go.Proofs.YtfbajlcljfjbkaaGreat
