/- Texts side by side. -/
import Derived.Test.YtaeddnjjeholgaaGreatUgac
import Derived.Test.YtaeddnjjeholgaaGreatUgap
set_option linter.unusedVariables false
set_option linter.unusedSimpArgs false
set_option maxRecDepth 100000
set_option maxHeartbeats 16000000
namespace Go.Proofs.YtaeddnjjeholgaaGreat
open Kap Go.RowKit Mem Tre Ref3 Law3 Fix3
namespace Cfg
open Go.ChangeShapes Go.WideShapes Opn Bnd Flo
variable {a b n:Int} {l sy:List (Int×Int×Int×Nat)} {ac:List Int} {B i:Nat} {A:Option Addr} {w:World}
theorem run_store_float{P:Program}{a:Addr}{m:Mode}(k:FloatKind)(n:Nat):(store a (.float k n) m).run P w=stored P w a (.float k n) m:=run_store P w a _ m rfl
def sP(l:List (Int×Int×Int×Nat))(i:Nat):Int:=(l.getD i (0,0,0,0)).1
def sQ(l:List (Int×Int×Int×Nat))(i:Nat):Int:=(l.getD i (0,0,0,0)).2.1
def sW(l:List (Int×Int×Int×Nat))(i:Nat):Int:=(l.getD i (0,0,0,0)).2.2.1
def sB(l:List (Int×Int×Int×Nat))(i:Nat):Nat:=(l.getD i (0,0,0,0)).2.2.2
def syV(p:Int×Int×Int×Nat):List Value:=[.int .i64 p.1,.int .i64 p.2.1,.int .i64 p.2.2.1,.float .f64 p.2.2.2]
def btV(p:Int×Int×Int×Nat):List Value:=[.int .i64 p.1,.int .i64 p.2.1,.int .i64 p.2.2.1,.int .u64 (p.2.2.2:Int)]
def smbs(l:List (Int×Int×Int×Nat)):List Value:=l.flatMap syV
def btbs(l:List (Int×Int×Int×Nat)):List Value:=l.flatMap btV
theorem smbs_len(l:List (Int×Int×Int×Nat)):(smbs l).length=l.length*4:=by
 induction l with
 |nil=>rfl
 |cons p l ih=>simp[smbs,syV]at ih ⊢;omega
theorem btbs_len(l:List (Int×Int×Int×Nat)):(btbs l).length=l.length*4:=by
 induction l with
 |nil=>rfl
 |cons p l ih=>simp[btbs,btV]at ih ⊢;omega
theorem smbs_get(l:List (Int×Int×Int×Nat))(i:Nat)(hi:i<l.length):
  (smbs l)[i*4]? =some (.int .i64 (sP l i))∧(smbs l)[i*4+1]? =some (.int .i64 (sQ l i))∧(smbs l)[i*4+2]? =some (.int .i64 (sW l i))∧(smbs l)[i*4+3]? =some (.float .f64 (sB l i)):=by
 induction l generalizing i with
 |nil=>simp at hi
 |cons p l ih=>
  cases i with
  |zero=>simp[smbs,syV,sP,sQ,sW,sB]
  |succ i=>
   have:=ih i (by simpa using hi);rw[show(i+1)*4=i*4+4 by omega,show i*4+4+1=(i*4+1)+4 by omega,show i*4+4+2=(i*4+2)+4 by omega,show i*4+4+3=(i*4+3)+4 by omega];simpa[smbs,syV,sP,sQ,sW,sB] using this
theorem btbs_get(l:List (Int×Int×Int×Nat))(i:Nat)(hi:i<l.length):
  (btbs l)[i*4]? =some (.int .i64 (sP l i))∧(btbs l)[i*4+1]? =some (.int .i64 (sQ l i))∧(btbs l)[i*4+2]? =some (.int .i64 (sW l i))∧(btbs l)[i*4+3]? =some (.int .u64 (sB l i:Int)):=by
 induction l generalizing i with
 |nil=>simp at hi
 |cons p l ih=>
  cases i with
  |zero=>simp[btbs,btV,sP,sQ,sW,sB]
  |succ i=>
   have:=ih i (by simpa using hi);rw[show(i+1)*4=i*4+4 by omega,show i*4+4+1=(i*4+1)+4 by omega,show i*4+4+2=(i*4+2)+4 by omega,show i*4+4+3=(i*4+3)+4 by omega];simpa[btbs,btV,sP,sQ,sW,sB] using this
def Smb(w:World)(B:Nat)(A:Option Addr)(l:List (Int×Int×Int×Nat)):Prop:=Rd w B A (smbs l)
def Btb(w:World)(B:Nat)(A:Option Addr)(l:List (Int×Int×Int×Nat)):Prop:=Rd w B A (btbs l)
theorem Smb.at(h:Smb w B A l){i:Nat}(hi:i<l.length):
  ∃b o,A=some ⟨b,o,none⟩∧b<B∧ ∀j,j<l.length→w.cell? ⟨b,o+j*4,none⟩=some (.int .i64 (sP l j))∧w.cell? ⟨b,o+j*4+1,none⟩=some (.int .i64 (sQ l j))∧w.cell? ⟨b,o+j*4+2,none⟩=some (.int .i64 (sW l j))∧w.cell? ⟨b,o+j*4+3,none⟩=some (.float .f64 (sB l j)):=by
 obtain⟨b,o,hA,hb,hc⟩:=Rd.at h (by intro e;have:=smbs_len l;rw[e]at this;simp at this;omega);refine⟨b,o,hA,hb,fun j hj=>?_⟩;obtain⟨g0,g1,g2,g3⟩:=smbs_get l j hj;exact⟨hc _ _ g0,by rw[Nat.add_assoc];exact hc _ _ g1,by rw[Nat.add_assoc];exact hc _ _ g2,by rw[Nat.add_assoc];exact hc _ _ g3⟩
theorem Btb.at(h:Btb w B A l){i:Nat}(hi:i<l.length):
  ∃b o,A=some ⟨b,o,none⟩∧b<B∧ ∀j,j<l.length→w.cell? ⟨b,o+j*4,none⟩=some (.int .i64 (sP l j))∧w.cell? ⟨b,o+j*4+1,none⟩=some (.int .i64 (sQ l j))∧w.cell? ⟨b,o+j*4+2,none⟩=some (.int .i64 (sW l j))∧w.cell? ⟨b,o+j*4+3,none⟩=some (.int .u64 (sB l j:Int)):=by
 obtain⟨b,o,hA,hb,hc⟩:=Rd.at h (by intro e;have:=btbs_len l;rw[e]at this;simp at this;omega);refine⟨b,o,hA,hb,fun j hj=>?_⟩;obtain⟨g0,g1,g2,g3⟩:=btbs_get l j hj;exact⟨hc _ _ g0,by rw[Nat.add_assoc];exact hc _ _ g1,by rw[Nat.add_assoc];exact hc _ _ g2,by rw[Nat.add_assoc];exact hc _ _ g3⟩
def WfS(l:List (Int×Int×Int×Nat)):Prop:= ∀i,i<l.length→inI (sP l i)∧inI (sQ l i)∧inI (sW l i)∧sB l i<18446744073709551616
theorem smbs_snoc(l:List (Int×Int×Int×Nat))(p:Int×Int×Int×Nat):smbs (l++[p])=smbs l++[.int .i64 p.1,.int .i64 p.2.1,.int .i64 p.2.2.1,.float .f64 p.2.2.2]:=by simp[smbs,syV]
theorem takeS_snoc{k:Nat}(h:k<l.length):l.take (k+1)=l.take k++[(sP l k,sQ l k,sW l k,sB l k)]:=by
 have e:l[k]=(sP l k,sQ l k,sW l k,sB l k):=by simp[sP,sQ,sW,sB,h]
 rw[List.take_succ_eq_append_getElem h,e]
def btwB(a n b:Int):Bool:=decide (a≤n)&&decide (n≤b)
def symB(p q wo:Int)(b:Nat):Bool:=btwB 1 p 1099511627776&&btwB 1 q 1099511627776&&decide (0≤wo)&&rightB b
def sizB(sh wi ra ta:Int):Bool:=btwB 1 sh 4&&btwB 0 wi 16&&btwB 1 ra 1000&&btwB 1 ta 64
def accB(n:Nat)(ac:List Int):Bool:=decide (∀i,i<ac.length→inR n (gI ac i)=true)
def tabB(sy:List (Int×Int×Int×Nat)):Bool:=decide (∀i,i<sy.length→symB (sP sy i) (sQ sy i) (sW sy i) (sB sy i)=true)
def cfgF(sh wi ra ta:Int)(nd:List (Int×Int))(ac:List Int)(sy:List (Int×Int×Int×Nat)):Int:=
 if sizB sh wi ra ta=false then 1
 else if ¬(chk nd).1=0 then (chk nd).1
 else if ac.length=0∨32<ac.length then 3
 else if accB nd.length ac=false then 18
 else if sy.length=0∨16<sy.length then 4
 else if tabB sy=false then 1 else 0
theorem btw_t(h:a≤n)(h':n≤b):btwB a n b=true:=by simp[btwB,h,h']
theorem btw_l(h:n<a):btwB a n b=false:=by simp[btwB];omega
theorem btw_g(h:b<n):btwB a n b=false:=by simp[btwB];omega
theorem accB_f{n:Nat}(h:i<ac.length)(h':inR n (gI ac i)=false):accB n ac=false:=by
 unfold accB;simp only[decide_eq_false_iff_not];intro e;rw[e i h]at h';exact absurd h' (by decide)
theorem accB_t{n:Nat}(h: ∀i,i<ac.length→inR n (gI ac i)=true):accB n ac=true:=by
 unfold accB;simpa using h
theorem tabB_f(h:i<sy.length)(h':symB (sP sy i) (sQ sy i) (sW sy i) (sB sy i)=false):tabB sy=false:=by
 unfold tabB;simp only[decide_eq_false_iff_not];intro e;rw[e i h]at h';exact absurd h' (by decide)
theorem tabB_t(h: ∀i,i<sy.length→symB (sP sy i) (sQ sy i) (sW sy i) (sB sy i)=true):tabB sy=true:=by
 unfold tabB;simpa using h
section
variable {sh wi ra ta:Int} {nd:List (Int×Int)} {ac:List Int} {sy:List (Int×Int×Int×Nat)}
theorem cfgF_1(h:sizB sh wi ra ta=false):cfgF sh wi ra ta nd ac sy=1:=by unfold cfgF;rw[if_pos h]
theorem cfgF_2(h:sizB sh wi ra ta=true)(h2: ¬(chk nd).1=0):cfgF sh wi ra ta nd ac sy=(chk nd).1:=by
 unfold cfgF;rw[if_neg (by rw[h];decide),if_pos h2]
theorem cfgF_3(h:sizB sh wi ra ta=true)(h2:(chk nd).1=0)(h3:ac.length=0∨32<ac.length):cfgF sh wi ra ta nd ac sy=3:=by
 unfold cfgF;rw[if_neg (by rw[h];decide),if_neg (by simp[h2]),if_pos h3]
theorem cfgF_4(h:sizB sh wi ra ta=true)(h2:(chk nd).1=0)(h3: ¬(ac.length=0∨32<ac.length))(h4:accB nd.length ac=false):cfgF sh wi ra ta nd ac sy=18:=by
 unfold cfgF;rw[if_neg (by rw[h];decide),if_neg (by simp[h2]),if_neg h3,if_pos h4]
theorem cfgF_5(h:sizB sh wi ra ta=true)(h2:(chk nd).1=0)(h3: ¬(ac.length=0∨32<ac.length))(h4:accB nd.length ac=true)(h5:sy.length=0∨16<sy.length):cfgF sh wi ra ta nd ac sy=4:=by
 unfold cfgF;rw[if_neg (by rw[h];decide),if_neg (by simp[h2]),if_neg h3,if_neg (by rw[h4];decide),if_pos h5]
theorem cfgF_6(h:sizB sh wi ra ta=true)(h2:(chk nd).1=0)(h3: ¬(ac.length=0∨32<ac.length))(h4:accB nd.length ac=true)(h5: ¬(sy.length=0∨16<sy.length))(h6:tabB sy=false):cfgF sh wi ra ta nd ac sy=1:=by
 unfold cfgF;rw[if_neg (by rw[h];decide),if_neg (by simp[h2]),if_neg h3,if_neg (by rw[h4];decide),if_neg h5,if_pos h6]
theorem cfgF_7(h:sizB sh wi ra ta=true)(h2:(chk nd).1=0)(h3: ¬(ac.length=0∨32<ac.length))(h4:accB nd.length ac=true)(h5: ¬(sy.length=0∨16<sy.length))(h6:tabB sy=true):cfgF sh wi ra ta nd ac sy=0:=by
 unfold cfgF;rw[if_neg (by rw[h];decide),if_neg (by simp[h2]),if_neg h3,if_neg (by rw[h4];decide),if_neg h5,if_neg (by rw[h6];decide)]
end
def lokF(ac:List Int)(sy:List (Int×Int×Int×Nat))(a s p q n t:Int):Int×Int:=
 if p<1∨q<1∨n<0∨t<0 then (1,0)
 else if inR ac.length a=false then (3,0)
 else if inR sy.length s=false then (4,0)
 else if sQ sy s.toNat<q then (5,0)
 else if ¬Fix.inB (p*q)=true then (6,0)
 else if sW sy s.toNat<p*q then (7,0)
 else if witB (sP sy s.toNat) p (sB sy s.toNat)=false then (8,0)
 else (0,p*q)
def shaF(sh:Int)(n:Nat)(a:Int):Int:=if sh<1∨inR n a=false then-1 else a%sh
end Cfg
namespace Fcf
open Bnd Flo Cfg Crd CrdB CrdC Cpl
def modF(x m:Int):Int:=wrap64 ((IntKind.u64.wrap x).tmod m)
variable {sy:List (Int×Int×Int×Nat)} {ac:List Int} {n:Nat}
theorem modF_bd{x m:Int}(h:0<m)(h':m≤4611686018427387904):0≤modF x m∧modF x m<m:=by
 unfold modF;rw[wrap_u64,Int.tmod_eq_emod_of_nonneg (Int.emod_nonneg _ (by decide))];have a:=Int.emod_nonneg (x%18446744073709551616) (b:=m) (by omega);have b:=Int.emod_lt_of_pos (x%18446744073709551616) (b:=m) h;generalize x%18446744073709551616%m=r at *;unfold wrap64;omega
def fixA(n:Nat)(ac:List Int):List Int:=if ac.length=0 then [(n:Int)-1] else (ac.take 5).map fun a=>modF a n
def oneS(p:Int×Int×Int×Nat):Int×Int×Int×Nat:=
 (1+modF p.1 1099511627776,1+modF p.2.1 1099511627776,if p.2.2.1<0 then 9223372036854775807 else p.2.2.1,if rightB p.2.2.2=true then p.2.2.2 else 4602678819172646912)
def fixS(sy:List (Int×Int×Int×Nat)):List (Int×Int×Int×Nat):=if sy.length=0 then [(10,100,1000,4602678819172646912)] else (sy.take 3).map oneS
theorem fixA_len:1≤(fixA n ac).length∧(fixA n ac).length≤5:=by
 unfold fixA;split
 ·simp
 ·rw[List.length_map,List.length_take];omega
end Fcf
namespace Fown
open Abv Go.ChangeShapes Go.WideShapes Go.ChangeAt
def MadeNdsR(l:List (Int×Int))(w:World)(e:Ending)(w':World):Prop:= ∃A c,e= .returned (.slice A l.length c)∧w'.ownsRow w.heap.size 71 2 (.slice A l.length c) l.length (nds l)∧Below w.heap.size w w'
variable {w:World}
theorem madeNdsR_mk{xs ys:List (Int×Int)}{A:Option Addr}{c:Nat}{w':World}(h:ys=xs)(hr:w'.ownsRow w.heap.size 71 2 (.slice A xs.length c) xs.length (nds xs))(hb:Below w.heap.size w w'):MadeNdsR ys w (.returned (.slice A xs.length c)) w':=by
 subst h;exact⟨A,c,rfl,hr,hb⟩
theorem own_one{g:Nat}{te:TypeId}{base:Nat}{a b:Value}(h:Blk w g te #[a,b])(hb:base≤g):w.ownsRow base te 2 (.slice (some ⟨g,0,none⟩) 1 1) 1 [a,b]:=
 ⟨by simp,.inr ⟨g,1,#[a,b],rfl,hb,h,τ,by unfold maxLen;omega,by simp,by simp⟩⟩
theorem fix_own(A:Option Addr)(c:Nat)(l:List (Int×Int))(w:World)(hl:Hid (Nds w w.heap.size A l))(hw:Hid (WfN l))(hmax:(l.length:Int)≤9223372036854775807):
  Calls Tryz.prog 55 #[.slice A l.length c] w (MadeNdsR (fixF l) w):=by
 obtain⟨i0,hi,hz0,hz1,hz2⟩:=info_parts rnode_info
 go_enter Tryz.func55,Tryz.ntmps55
 go_wp2
 go_loopg [3,4] (min l.length 10) (fun g s3 s4 w'=> ∃(k:Nat) (A':Option Addr) (c':Nat),k+g=min l.length 10∧s4= ι k∧s3= .slice A' k c'∧Hid (w'.ownsRow w.heap.size 71 2 (.slice A' k c') k (nds (fixK l k)))∧Below w.heap.size w w')
 case atStart=>exact⟨0,none,0,by omega,rfl,rfl,World.ownsRow_nil _ _ _ _,Below.refl _ _⟩
 case round=>
  obtain⟨k,A',c',hk,rfl,rfl,hown,hbel⟩:=hrel;by_cases hlt:k<l.length∧k<10
  ·obtain⟨g,rfl⟩: ∃g,gk=g+1:=⟨gk-1,by omega⟩;obtain⟨b,o,rfl,hb,hc⟩:=Nds.at hl.out (by omega);have hc0:=(hbel.cell (p:=(α b (o+k*2))) hb).trans (hc k (by omega)).1;have hc1:=(hbel.cell (p:=(α b (o+k*2+1))) hb).trans (hc k (by omega)).2;obtain⟨hp,hcc⟩:=hw.out k (by omega);obtain⟨hp1,hp2⟩:=hp;obtain⟨hcc1,hcc2⟩:=hcc;obtain⟨hlt1,hlt2⟩:=hlt;have t1:decide ((k:Int)<10)=true:=by simp;omega
   have hblk:b<wr.heap.size:=by have:=hbel.size;omega
   have hc0':=fun X=>(World.cell?_alloc_lt wr X (α b (o+k*2)) hblk).trans hc0
   have HC:=κ hc;have HKK:=κ hk;clear hc hk hc0
   have hown1:Hid (Nds (wr.alloc (.cells (vI (nP l k%k) (wrap64 ((IntKind.u64.wrap (nC l k)).tmod 4611686018427387905))) 71)) (wr.alloc (.cells (vI (nP l k%k) (wrap64 ((IntKind.u64.wrap (nC l k)).tmod 4611686018427387905))) 71)).heap.size A' (fixK l k)):=
    Rd.of_own (World.ownsRow.alloc hown.out _)
   have hwk:=κ (okt_wf (okt_fixK l k) (by rw[fixK_len];omega));have hlk:=κ ((fixK_len l k).symm);have hmk:((fixK l k).length:Int)≤9223372036854775807:=by rw[fixK_len];omega
   by_cases hq:0<k∧0≤nP l k
   ·have hpp:=κ hq;obtain⟨hq1,hq2⟩:=hq;have hm1:=Int.emod_nonneg (nP l k) (b:=(k:Int)) (by omega);have hm2:=Int.emod_lt_of_pos (nP l k) (b:=(k:Int)) (by omega);obtain⟨m,hm⟩: ∃m:Int,m=nP l k%k:=⟨_,rfl⟩;have HM:=κ hm
    go_wp2_with fail
    refine(rpath_n _ _ _ (fixK l k) _ _ hlk.out hown1 hwk hmk ⟨by omega,by omega⟩).mono ?_;rintro e w1 ⟨A1,c1,rfl,hr1,hb1⟩;have hbk:=κ (Blk.below' (Blk.fresh wr _ _) hb1);have f0:=χ (hbk.out.cell 0);have f1:=χ (hbk.out.cell 1);have z0:=hbk.out.thaw 0;have hbw1:=(ψ.alloc τ _).trans (hb1.mono (by simp));have hbel1:=hbel.trans (hbw1.mono hbel.size);clear hr1 hb1 hown1;by_cases h3:3≤(pathF (fixK l k) 3 (nP l k%k)).length
    ·have h3':decide (3≤((pathF (fixK l k) 3 (nP l k%k)).length:Int))=true:=by simp;omega
     have hpre:Hid (nds (fixK l (k+1))=nds (fixK l k)++[ι (-1),ι (wrap64 ((IntKind.u64.wrap (nC l k)).tmod 4611686018427387905))]):=by
      show _=_;rw[fixK,nds_snoc,capE,fixP,if_pos hpp.out,if_pos h3]
     have hbw2:Below wr.heap.size wr (w1.setCell (α wr.heap.size 0) (ι (-1))):=hbw1.setCell τ _;have hbel1':=hbel.trans (hbw2.mono hbel.size);have hownA:=own_below hown hbw2;clear h3 hbel1 hbw1 hown
     go_wp2_with (first
      |(at_builtin;refine wpList_app1 hownA hbel1' rfl _ _ _ rfl i0 (.agg #[.int .i64 0,.int .i64 0]) 16 Tryz.underlying22 hi hz0 hz1 hz2 rfl (by decide) rfl rfl (by simp[World.setCell]) [.int .i64 (-1),.int .i64 (wrap64 ((IntKind.u64.wrap (nC l k)).tmod 4611686018427387905))] rfl rfl (by simp[Value.oneCell']) (by unfold maxLen;omega) (by omega) τ (hbel1').size (hbel1').size ?_;intro A2 c2 w2 hown2 hbel2 hsz2))
     go_roundg g
     case measure=>omega
     case rel=>exact⟨k+1,A2,c2,by have:=HKK.out;omega,by go_num,rfl,by rw[hpre.out];exact hown2,hbel2⟩
    ·have h3':decide (3≤((pathF (fixK l k) 3 (nP l k%k)).length:Int))=false:=by simp;omega
     have hpre:Hid (nds (fixK l (k+1))=nds (fixK l k)++[ι (nP l k%k),ι (wrap64 ((IntKind.u64.wrap (nC l k)).tmod 4611686018427387905))]):=by
      show _=_;rw[fixK,nds_snoc,capE,fixP,if_pos hpp.out,if_neg h3]
     have hownA:=own_below hown hbw1;clear h3 hbw1 hown
     go_wp2_with (first
      |(at_builtin;refine wpList_app1 hownA hbel1 rfl _ _ _ rfl i0 (.agg #[.int .i64 0,.int .i64 0]) 16 Tryz.underlying22 hi hz0 hz1 hz2 rfl (by decide) rfl rfl (by simp[World.setCell]) [.int .i64 (nP l k%k),.int .i64 (wrap64 ((IntKind.u64.wrap (nC l k)).tmod 4611686018427387905))] rfl rfl (by simp[Value.oneCell']) (by unfold maxLen;omega) (by omega) τ (hbel1).size (hbel1).size ?_;intro A2 c2 w2 hown2 hbel2 hsz2))
     go_roundg g
     case measure=>omega
     case rel=>exact⟨k+1,A2,c2,by have:=HKK.out;omega,by go_num,rfl,by rw[hpre.out];exact hown2,hbel2⟩
   ·have hpre:Hid (nds (fixK l (k+1))=nds (fixK l k)++[ι (-1),ι (wrap64 ((IntKind.u64.wrap (nC l k)).tmod 4611686018427387905))]):=by
     show _=_;rw[fixK,nds_snoc,capE,fixP,if_neg hq]
    have hbel1:=hbel.alloc hbel.size (.cells (vI (-1) (wrap64 ((IntKind.u64.wrap (nC l k)).tmod 4611686018427387905))) 71);have hownA:Hid ((wr.alloc (.cells (vI (-1) (wrap64 ((IntKind.u64.wrap (nC l k)).tmod 4611686018427387905))) 71)).ownsRow w.heap.size 71 2 (.slice A' k c') k (nds (fixK l k))):=World.ownsRow.alloc hown.out _;clear hown hown1;by_cases hq0:0<k
    ·have hq1:nP l k<0:=by omega
     have hq2:decide (0≤nP l k)=false:=by simp;omega
     clear hq
     go_wp2_with (first
      |(at_builtin;refine wpList_app1 hownA hbel1 rfl _ _ _ rfl i0 (.agg #[.int .i64 0,.int .i64 0]) 16 Tryz.underlying22 hi hz0 hz1 hz2 rfl (by decide) rfl rfl (by simp[World.setCell]) [.int .i64 (-1),.int .i64 (wrap64 ((IntKind.u64.wrap (nC l k)).tmod 4611686018427387905))] rfl rfl (by simp[Value.oneCell']) (by unfold maxLen;omega) (by omega) τ (hbel1).size (hbel1).size ?_;intro A2 c2 w2 hown2 hbel2 hsz2))
     go_roundg g
     case measure=>omega
     case rel=>exact⟨k+1,A2,c2,by have:=HKK.out;omega,by go_num,rfl,by rw[hpre.out];exact hown2,hbel2⟩
    ·have hq1:k=0:=by omega
     subst hq1;clear hq
     go_wp2_with (first
      |(at_builtin;refine wpList_app1 hownA hbel1 rfl _ _ _ rfl i0 (.agg #[.int .i64 0,.int .i64 0]) 16 Tryz.underlying22 hi hz0 hz1 hz2 rfl (by decide) rfl rfl (by simp[World.setCell]) [.int .i64 (-1),.int .i64 (wrap64 ((IntKind.u64.wrap (nC l 0)).tmod 4611686018427387905))] rfl rfl (by simp[Value.oneCell']) (by unfold maxLen;omega) (by omega) τ (hbel1).size (hbel1).size ?_;intro A2 c2 w2 hown2 hbel2 hsz2))
     go_roundg g
     case measure=>omega
     case rel=>exact⟨0+1,A2,c2,by have:=HKK.out;omega,by go_num,rfl,by rw[hpre.out];exact hown2,hbel2⟩
  ·have hgk:gk=0:=by omega
   have hkm:Hid (k=min l.length 10):=by show _=_;omega
   by_cases h0:l.length=0
   ·have hk0:k=0:=by omega
    subst hk0;have hres:Hid (fixF l=[(-1,1000)]):=by show _=_;rw[fixF,if_pos h0]
    have h1: ¬((0:Nat):Int)<l.length:=by omega
    have h0':(l.length:Int)≤0:=by omega
    clear h0 hlt
    go_wp2_with fail
    go_ret;have hb:=Blk.fresh wr 71 (vI (-1) 1000);exact madeNdsR_mk (xs:=[(-1,1000)]) hres.out (own_one hb hbel.size) (hbel.alloc hbel.size _)
   ·have hres:Hid (fixF l=fixK l k):=by show _=_;rw[fixF,if_neg h0,hkm.out]
    have hk0:((k:Int)==0)=false:=beq_eq_false_iff_ne.2 (by have:=hkm.out;omega);have hris:=κ hown.out
    have hfin:Hid (MadeNdsR (fixF l) w (.returned (.slice A' k c')) wr):=by
     have e:=fixK_len l k;have:=madeNdsR_mk (ys:=fixF l) (xs:=fixK l k) (A:=A') (c:=c') (w':=wr) hres.out (by rw[e];exact hris.out) hbel;rwa[e]at this
    by_cases hlt1:k<l.length
    ·have t1:decide ((k:Int)<10)=false:=by simp;omega
     clear hlt h0 hk hgk
     go_wp2_with fail
     go_ret;exact hfin.out
    ·have t1:(l.length:Int)≤k:=by omega
     clear hlt h0 hk hgk
     go_wp2_with fail
     go_ret;exact hfin.out
end Fown
end Go.Proofs.YtaeddnjjeholgaaGreat
