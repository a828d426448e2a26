/- Texts side by side. -/
import Derived.WalkKit
import Derived.OpenShut
import Derived.Outline
import Derived.LoopTactic
import Derived.Deep.LoopGhost
import Derived.BigQuiet
import Derived.Deep.QuietTactic
import Derived.RegionTactic
import Derived.Deep.RegionLaw
import Derived.Test.YtfbajlcljfjbkaaGreatRows
import Derived.Test.YtfbajlcljfjbkaaGreatUniaa
set_option linter.unusedVariables false
set_option linter.unusedSimpArgs false
set_option maxRecDepth 100000
set_option maxHeartbeats 16000000
namespace Go.Proofs.YtfbajlcljfjbkaaGreat
open Kap Go.ChangeShapes Go.WideShapes Go.ChangeAt Go.RowKit Mem
namespace Tre
open Abv
def inR(n:Nat)(k:Int):Bool:=decide (0≤k)&&decide (k<n)
variable {b k:Int} {l:List (Int×Int)} {xs ys:List Int} {a c g n:Nat} {A:Option Addr} {w w':World}
theorem inR_t(h:0≤k)(h':k<n):inR n k=true:=by unfold inR;simp[h,h']
theorem inR_f(h:k<0∨n≤k):inR n k=false:=by unfold inR;simp;omega
theorem inR_of(h:inR n k=true):0≤k∧k<n:=by unfold inR at h;simpa using h
def top(l:List (Int×Int)):Nat→Nat→Bool
 |0,_=>false
 |d+1,a=>nP l a== -1||top l d (nP l a).toNat
def Par(l:List (Int×Int)):Prop:= ∀i,i<l.length→ -1≤nP l i∧nP l i<l.length
def climbF(l:List (Int×Int)):Nat→Nat→Int×Int
 |0,_=>(0,-1)
 |g+1,k=>if top l 3 k then climbF l g (k+1) else (16,k)
def scanF(l:List (Int×Int)):Nat→Nat→Int×Int
 |0,_=>climbF l l.length 0
 |g+1,k=>if nP l k= -1∨inR l.length (nP l k)=true then (if 0≤nC l k∧nC l k≤4611686018427387904 then scanF l g (k+1) else (1,k)) else (18,k)
def chk(l:List (Int×Int)):Int×Int:=
 if 32<l.length then (11,0) else if l.length=0 then (1,0) else scanF l l.length 0
theorem top_m1(h:nP l a= -1):top l (g+1) a=true:=by unfold top;simp[h]
theorem top_up(h:(nP l a== -1)=false):top l (g+1) a=top l g (nP l a).toNat:=by
 rw[top,h];simp
def pathF(l:List (Int×Int)):Nat→Int→List Int
 |0,_=>[]
 |g+1,n=>if inR l.length n then n :: pathF l g (nP l n.toNat) else []
def fitF(l:List (Int×Int)):Nat→Int→Bool
 |0,n=> !inR l.length n
 |g+1,n=>if inR l.length n then fitF l g (nP l n.toNat) else true
def ToldB(b:Bool)(w:World)(e:Ending)(w':World):Prop:=e= .returned (.bool b)∧w=w'
def Told2(p:Int×Int)(w:World)(e:Ending)(w':World):Prop:=e= .returned (.tuple #[.int .i64 p.1,.int .i64 p.2])∧w=w'
def Made2(p:Int×Int)(w:World)(e:Ending)(w':World):Prop:=e= .returned (.tuple #[.int .i64 p.1,.int .i64 p.2])∧Below w.heap.size w w'
theorem told2{p:Int×Int}{a:Int}(h:p=(a,b)):Told2 p w (.returned (.tuple #[.int .i64 a,.int .i64 b])) w:=by subst h;exact⟨rfl,rfl⟩
theorem made2{p:Int×Int}{a:Int}(h:p=(a,b))(hb:Below w.heap.size w w'):Made2 p w (.returned (.tuple #[.int .i64 a,.int .i64 b])) w':=by subst h;exact⟨rfl,hb⟩
theorem has_any(A:Option Addr)(n c:Nat)(k:Int)(w:World):
  Calls Tryz.prog 97 #[.slice A n c,.int .i64 k] w (ToldB (inR n k) w):=by
 by_cases h0:0≤k
 ·by_cases h1:k<n
  ·go_enter Tryz.func97,Tryz.ntmps97
   go_wp2
   go_ret;exact⟨by rw[inR_t h0 h1];rfl,rfl⟩
  ·go_enter Tryz.func97,Tryz.ntmps97
   go_wp2
   go_ret;exact⟨by rw[inR_f (by omega)];rfl,rfl⟩
 ·go_enter Tryz.func97,Tryz.ntmps97
  go_wp2
  go_ret;exact⟨by rw[inR_f (by omega)];rfl,rfl⟩
theorem climb_any(b o c:Nat)(l:List (Int×Int))(w:World)(hn:l.length≤32)(hpar:Hid (Par l))
  (hp:Hid (∀i,i<l.length→w.cell? ⟨b,o+i*2,none⟩=some (.int .i64 (nP l i)))):
  Calls Tryz.prog 98 #[.slice (some ⟨b,o,none⟩) l.length c] w (Told2 (climbF l l.length 0) w):=by
 go_enter Tryz.func98,Tryz.ntmps98
 go_wp2
 go_step3
 go_wp2
 go_step3
 go_wp2
 go_loopg [8] l.length (fun g s8 w'=> ∃k:Nat,k+g=l.length∧s8= ι k∧Hid (climbF l g k=climbF l l.length 0)∧w=w')
 case atStart=>exact⟨0,by omega,rfl,rfl,rfl⟩
 case round=>
  obtain⟨k,hk,rfl,hall,rfl⟩:=hrel;obtain⟨g0,rfl⟩: ∃g:Nat,g=gk:=⟨_,rfl⟩;by_cases hlt:(k:Int)<(l.length:Int)
  ·go_wp2
   go_loopg [5,12] 3 (fun g s5 s12 w'=> ∃a:Nat,a<l.length∧s5= ι a∧s12= ι ((3:Int)-g)∧g≤3∧Hid (top l g a=top l 3 k)∧w=w')
   case atStart=>exact⟨k,by omega,rfl,rfl,by omega,rfl,rfl⟩
   case round=>
    obtain⟨a,ha,rfl,rfl,hg,ht,rfl⟩:=hrel;have hc:=hp.out a ha;have hb:=hpar.out a ha;by_cases hz:gk=0
    ·subst hz
     have ht':Hid (climbF l l.length 0=(16,(k:Int))):=by
      show _=_;rw[←hall.out,show g0=(g0-1)+1 by omega,climbF,←ht.out];rfl
     go_wp2
     rw[Exit.noGoto_ret];go_ret2;exact told2 ht'.out
    ·obtain⟨g,rfl⟩: ∃g,gk=g+1:=⟨gk-1,by omega⟩;by_cases hm:nP l a= -1
     ·have ht':top l 3 k=true:=by rw[←ht.out];exact top_m1 hm
      have hall':Hid (climbF l (g0-1) (k+1)=climbF l l.length 0):=by
       show _=_;rw[←hall.out,show g0=(g0-1)+1 by omega,climbF,ht'];rfl
      have hm':(nP l a== -1)=true:=by simp[hm]
      have HM:=κ hm;clear hm ht' ht
      go_wp2
      go_roundg (g0-1)
      case measure=>omega
      case rel=>exact⟨k+1,by omega,by go_num,hall',rfl⟩
     ·have hm':(nP l a== -1)=false:=by simp[hm]
      have ht':Hid (top l g (nP l a).toNat=top l 3 k):=by
       show _=_;rw[←ht.out];exact(top_up hm').symm
      go_wp2
      go_roundg g
      case measure=>omega
      case rel=>exact⟨(nP l a).toNat,by omega,by congr 1;omega,by congr 1;omega,by omega,ht',rfl⟩
  ·have hall':Hid (climbF l l.length 0=(0,-1)):=by
    show _=_;rw[←hall.out,show g0=0 by omega];rfl
   go_wp2
   try rw[Exit.noGoto_ret]
   go_ret2;exact told2 hall'.out
theorem scan_18{k:Nat}(h:(nP l k != -1)=true)(h':inR l.length (nP l k)=false):scanF l (g+1) k=(18,(k:Int)):=by
 rw[scanF,if_neg];simp at h;simp[h,h']
theorem scan_1{k:Nat}(h:nP l k= -1∨inR l.length (nP l k)=true)(h':nC l k<0∨4611686018427387904<nC l k):scanF l (g+1) k=(1,(k:Int)):=by
 rw[scanF,if_pos h,if_neg (by omega)]
theorem scan_go{k:Nat}(h:nP l k= -1∨inR l.length (nP l k)=true)(h':0≤nC l k)(h'':nC l k≤4611686018427387904):scanF l (g+1) k=scanF l g (k+1):=by
 rw[scanF,if_pos h,if_pos ⟨h',h''⟩]
theorem check_any(A:Option Addr)(c:Nat)(l:List (Int×Int))(w:World)(hl:Nds w w.heap.size A l)(hw:Hid (WfN l))(hmax:(l.length:Int)≤9223372036854775807):
  Calls Tryz.prog 58 #[.slice A l.length c] w (Made2 (chk l) w):=by
 by_cases h32:32<l.length
 ·go_enter Tryz.func58,Tryz.ntmps58
  go_wp2
  go_ret2;exact made2 (by rw[chk,if_pos h32]) ψ
 by_cases h0:l.length=0
 ·have h0':=List.eq_nil_of_length_eq_zero h0;subst h0'
  go_enter Tryz.func58,Tryz.ntmps58
  go_wp2
  go_ret2;exact made2 rfl ψ
 obtain⟨b,o,rfl,hb,hc⟩:=hl.at (by omega);have HC:=κ hc;have H0:((l.length:Int)==0)=false:=beq_eq_false_iff_ne.2 (by omega);have hchk:Hid (chk l=scanF l l.length 0):=by show _=_;rw[chk,if_neg h32,if_neg h0]
 clear hc hl h0
 go_enter Tryz.func58,Tryz.ntmps58
 go_wp2
 go_loopg [14] l.length (fun g s14 w'=> ∃k:Nat,k+g=l.length∧s14= ι k∧Hid (scanF l g k=scanF l l.length 0)∧Hid (∀j,j<k→nP l j= -1∨inR l.length (nP l j)=true)∧Below w.heap.size w w')
 case atStart=>exact⟨0,by omega,rfl,rfl,fun j hj=>absurd hj (Nat.not_lt_zero j),Below.refl _ _⟩
 case round=>
  obtain⟨k,hk,rfl,hall,hpar,hbel⟩:=hrel;by_cases hlt:(k:Int)<(l.length:Int)
  ·obtain⟨g,rfl⟩: ∃g,gk=g+1:=⟨gk-1,by omega⟩;have hc0:=(hbel.cell (p:=(α b (o+k*2))) hb).trans (HC.out k (by omega)).1;have hc1:=(hbel.cell (p:=(α b (o+k*2+1))) hb).trans (HC.out k (by omega)).2;have hbel2:=hbel.alloc hbel.size (.cells (vI (nP l k) (nC l k)) 141);by_cases hP:nP l k= -1∨inR l.length (nP l k)=true
   ·by_cases hC:0≤nC l k∧nC l k≤4611686018427387904
    ·have hall':=κ ((scan_go hP hC.1 hC.2).symm.trans hall.out)
     have hpar':Hid (∀j,j<k+1→nP l j= -1∨inR l.length (nP l j)=true):=fun j hj=>by
      by_cases e:j=k
      ·subst e;exact hP
      ·exact hpar.out j (by omega)
     obtain⟨hC0,hC1⟩:=hC;by_cases hm:nP l k= -1
     ·have h1:(nP l k != -1)=false:=by simp[hm]
      have h1':(nP l k== -1)=true:=by simp[hm]
      clear hm hP
      go_wp2_with fail
      go_roundg g
      case measure=>omega
      case rel=>exact⟨k+1,by omega,by go_num,hall',hpar',hbel2⟩
     ·have h1:(nP l k != -1)=true:=by simp[hm]
      have h1':(nP l k== -1)=false:=by simp[hm]
      have h2:=hP.resolve_left hm;clear hm hP
      go_wp2_with (go_at_call 97;refine(has_any _ _ _ _ _).mono ?_;rintro e w' ⟨rfl,rfl⟩)
      go_roundg g
      case measure=>omega
      case rel=>exact⟨k+1,by omega,by go_num,hall',hpar',hbel2⟩
    ·have hres:Hid (scanF l l.length 0=(1,(k:Int))):=by
      show _=_;rw[←hall.out];exact scan_1 hP (by omega)
     by_cases hm:nP l k= -1
     ·have h1:(nP l k != -1)=false:=by simp[hm]
      have h1':(nP l k== -1)=true:=by simp[hm]
      clear hm hP;by_cases hC0:nC l k<0
      ·go_wp2_with fail
       go_ret2;exact made2 (hchk.out.trans hres.out) hbel2
      ·have hC1:4611686018427387904<nC l k:=by omega
       clear hC
       go_wp2_with fail
       go_ret2;exact made2 (hchk.out.trans hres.out) hbel2
     ·have h1:(nP l k != -1)=true:=by simp[hm]
      have h1':(nP l k== -1)=false:=by simp[hm]
      have h2:=hP.resolve_left hm;clear hm hP;by_cases hC0:nC l k<0
      ·go_wp2_with (go_at_call 97;refine(has_any _ _ _ _ _).mono ?_;rintro e w' ⟨rfl,rfl⟩)
       go_ret2;exact made2 (hchk.out.trans hres.out) hbel2
      ·have hC1:4611686018427387904<nC l k:=by omega
       clear hC
       go_wp2_with (go_at_call 97;refine(has_any _ _ _ _ _).mono ?_;rintro e w' ⟨rfl,rfl⟩)
       go_ret2;exact made2 (hchk.out.trans hres.out) hbel2
   ·have hm: ¬nP l k= -1:=fun e=>hP (.inl e)
    have h1:(nP l k != -1)=true:=by simp[hm]
    have h1':(nP l k== -1)=false:=by simp[hm]
    have h2:inR l.length (nP l k)=false:=by
     cases h:inR l.length (nP l k)
     ·rfl
     ·exact absurd (.inr h) hP
    have hres:Hid (scanF l l.length 0=(18,(k:Int))):=by
     show _=_;rw[←hall.out];exact scan_18 h1 h2
    clear hm hP
    go_wp2_with (go_at_call 97;refine(has_any _ _ _ _ _).mono ?_;rintro e w' ⟨rfl,rfl⟩)
    go_ret2;exact made2 (hchk.out.trans hres.out) hbel2
  ·have hres:Hid (scanF l l.length 0=climbF l l.length 0):=by
    show _=_;rw[←hall.out,show gk=0 by omega];rfl
   have hpar':Hid (Par l):=by
    intro i hi;rcases hpar.out i (by omega) with h|h
    ·omega
    ·have:=inR_of h;omega
   have hp':=κ <| fun i hi=>
    (hbel.cell (p:=⟨b,o+i*2,none⟩) hb).trans (HC.out i hi).1
   go_wp2_with (go_at_call 98;refine(climb_any b o c l _ (by omega) hpar' hp').mono ?_;rintro e w' ⟨rfl,rfl⟩)
   go_ret2;exact made2 (hchk.out.trans hres.out) hbel
theorem int_info:(Tryz.prog.info? 3).map (fun i=>(i.zero,i.size,i.bytes))=some (some (.int .i64 0),1,8):=by kernel_rfl
def MadeI(xs:List Int)(w:World)(e:Ending)(w':World):Prop:= ∃A c,e= .returned (.slice A xs.length c)∧Ris w' w'.heap.size A xs∧Below w.heap.size w w'
theorem madeI_mk(h:ys=xs)(hr:Ris w' w'.heap.size A xs)(hb:Below w.heap.size w w'):MadeI ys w (.returned (.slice A xs.length c)) w':=by
 subst h;exact⟨A,c,rfl,hr,hb⟩
def MadeIF(xs:List Int)(w:World)(e:Ending)(w':World):Prop:= ∃A c,e= .returned (.slice A xs.length c)∧Ris w' w'.heap.size A xs∧(∀a,A=some a→w.heap.size≤a.block)∧Below w.heap.size w w'
theorem madeIF_mk(h:ys=xs)(hr:Ris w' w'.heap.size A xs)(hf: ∀a,A=some a→w.heap.size≤a.block)(hb:Below w.heap.size w w'):MadeIF ys w (.returned (.slice A xs.length c)) w':=by
 subst h;exact⟨A,c,rfl,hr,hf,hb⟩
theorem own_fresh{base:Nat}{e:TypeId}{size m:Nat}{xs:List Value}(h:w.ownsRow base e size (.slice A m c) n xs): ∀a,A=some a→base≤a.block:=by
 rintro a rfl;rcases h.2 with⟨h1,_⟩|⟨g,cap,cur,h1,h2,_⟩
 ·cases h1
 ·injection h1 with h1;injection h1 with h1;subst h1;exact h2
theorem pathF_out{n:Int}(h:inR l.length n=false):pathF l g n=[]:=by
 cases g<;>simp[pathF,h]
theorem pathF_in{n:Int}(h:inR l.length n=true):pathF l (g+1) n=n :: pathF l g (nP l n.toNat):=by
 rw[pathF,if_pos h]
theorem path_fresh(A:Option Addr)(c:Nat)(l:List (Int×Int))(n:Int)(w:World)(hl:Nds w w.heap.size A l)(hw:Hid (WfN l))(hmax:(l.length:Int)≤9223372036854775807)(hn:inI n):
  Calls Tryz.prog 126 #[.slice A l.length c,.int .i64 n] w (MadeIF (pathF l 3 n) w):=by
 obtain⟨i0,hi,hz0,hz1,hz2⟩:=info_parts int_info;have HL:=κ hl;clear hl
 go_enter Tryz.func126,Tryz.ntmps126
 go_wp2
 go_loopg [1,5] 3 (fun g s1 s5 w'=> ∃(m:Int) (xs:List Int) (A':Option Addr) (c':Nat),xs.length+g=3∧inI m∧s1= ι m∧s5= .slice A' xs.length c'∧Hid (xs++pathF l g m=pathF l 3 n)∧Hid (w'.ownsRow w.heap.size 3 1 (.slice A' xs.length c') xs.length (ints xs))∧Below w.heap.size w w')
 case atStart=>exact⟨n,[],none,0,by simp,hn,rfl,rfl,rfl,World.ownsRow_nil _ _ _ _,Below.refl _ _⟩
 case round=>
  obtain⟨m,xs,A',c',hg,hm,rfl,rfl,hres,hown,hbel⟩:=hrel;by_cases hin:inR l.length m=true
  ·by_cases h3:xs.length<3
   ·obtain⟨g,rfl⟩: ∃g,gk=g+1:=⟨gk-1,by omega⟩;have hx3:decide ((xs.length:Int)<3)=true:=by simp;omega
    obtain⟨hr0,hr1⟩:=inR_of hin;obtain⟨b,o,rfl,hb,hc⟩:=Nds.at HL.out (by omega);have hc0:=(hc m.toNat (by omega)).1;have hp1:=(hw.out m.toNat (by omega)).1
    have hres1:Hid ((xs++[m])++pathF l g (nP l m.toNat)=pathF l 3 n):=by
     show _=_;rw[←hres.out,pathF_in hin,List.append_assoc];rfl
    go_wp2_with (first
     |(at_builtin;refine wpList_app1 hown hbel rfl _ _ _ rfl i0 (.int .i64 0) 8 Tryz.underlying23 hi hz0 hz1 hz2 rfl (by decide) rfl rfl rfl [.int .i64 m] rfl rfl (by simp[Value.oneCell']) (by unfold maxLen;omega) (by omega) τ hbel.size hbel.size ?_;intro A1 c1 w1 hown1 hbel1 hsz1;have hc1:=(hbel1.cell (p:=⟨b,o+m.toNat*2,none⟩) hb).trans hc0)
     |(go_at_call 97;refine(has_any _ _ _ _ _).mono ?_;rintro e w' ⟨rfl,rfl⟩))
    go_roundg g
    case measure=>omega
    case rel=>exact⟨nP l m.toNat,xs++[m],A1,c1,by simp;omega,hp1,rfl,by simp,hres1,by rw[List.length_append,ints_snoc];exact hown1,hbel1⟩
   ·have hx3:decide ((xs.length:Int)<3)=false:=by simp;omega
    have hres1:Hid (xs=pathF l 3 n):=by
     show _=_;rw[←hres.out,show gk=0 by omega];simp[pathF]
    have hris:Hid (Ris wr wr.heap.size A' xs):=Rd.of_own hown.out;have hfr:=κ (own_fresh hown.out)
    go_wp2_with fail
    go_ret;exact madeIF_mk hres1.out.symm hris.out hfr.out hbel
  ·have hin:inR l.length m=false:=by simpa using hin
   have hres1:Hid (xs=pathF l 3 n):=by
    show _=_;rw[←hres.out,pathF_out hin];simp
   have hris:Hid (Ris wr wr.heap.size A' xs):=Rd.of_own hown.out;have hfr:=κ (own_fresh hown.out);by_cases h3:xs.length<3
   ·have hx3:decide ((xs.length:Int)<3)=true:=by simp;omega
    go_wp2_with (go_at_call 97;refine(has_any _ _ _ _ _).mono ?_;rintro e w' ⟨rfl,rfl⟩)
    go_ret;exact madeIF_mk hres1.out.symm hris.out hfr.out hbel
   ·have hx3:decide ((xs.length:Int)<3)=false:=by simp;omega
    go_wp2_with fail
    go_ret;exact madeIF_mk hres1.out.symm hris.out hfr.out hbel
end Tre
namespace Ref3
open Tre
def MadeIB(xs:List Int)(b:Bool)(w:World)(e:Ending)(w':World):Prop:= ∃A c,e= .returned (.tuple #[.slice A xs.length c,.bool b])∧Ris w' w'.heap.size A xs∧Below w.heap.size w w'
variable {n:Int} {l:List (Int×Int)} {g k:Nat}
theorem madeIB_mk{xs ys:List Int}{b b':Bool}{A:Option Addr}{c:Nat}{w w':World}(h:ys=xs)(hb':b'=b)(hr:Ris w' w'.heap.size A xs)(hb:Below w.heap.size w w'):MadeIB ys b' w (.returned (.tuple #[.slice A xs.length c,.bool b])) w':=by
 subst h;subst hb';exact⟨A,c,rfl,hr,hb⟩
theorem fitF_out(h:inR l.length n=false):fitF l g n=true:=by
 cases g<;>simp[fitF,h]
theorem fitF_in(h:inR l.length n=true):fitF l (g+1) n=fitF l g (nP l n.toNat):=by
 rw[fitF,if_pos h]
theorem rclimb_any(A:Option Addr)(c:Nat)(l:List (Int×Int))(n:Int)(w:World)(hl:Hid (Nds w w.heap.size A l))(hw:Hid (WfN l))(hmax:(l.length:Int)≤9223372036854775807)(hn:inI n):
  Calls Tryz.prog 95 #[.slice A l.length c,.int .i64 n] w (MadeIB (pathF l 3 n) (fitF l 3 n) w):=by
 obtain⟨i0,hi,hz0,hz1,hz2⟩:=info_parts int_info
 go_enter Tryz.func95,Tryz.ntmps95
 go_wp2
 go_loopg [1,6] 3 (fun g s1 s6 w'=> ∃(m:Int) (xs:List Int) (A':Option Addr) (c':Nat),xs.length+g=3∧inI m∧s1= ι m∧s6= .slice A' xs.length c'∧Hid (xs++pathF l g m=pathF l 3 n)∧Hid (fitF l g m=fitF l 3 n)∧Hid (w'.ownsRow w.heap.size 3 1 (.slice A' xs.length c') xs.length (ints xs))∧Below w.heap.size w w')
 case atStart=>exact⟨n,[],none,0,by simp,hn,rfl,rfl,rfl,rfl,World.ownsRow_nil _ _ _ _,Below.refl _ _⟩
 case round=>
  obtain⟨m,xs,A',c',hg,hm,rfl,rfl,hres,hfit,hown,hbel⟩:=hrel;have hris:Hid (Ris wr wr.heap.size A' xs):=Rd.of_own hown.out;by_cases hin:inR l.length m=true
  ·obtain⟨hr0,hr1⟩:=inR_of hin;obtain⟨b,o,rfl,hb,hc⟩:=Nds.at hl.out (by omega);by_cases h3:xs.length<3
   ·obtain⟨g,rfl⟩: ∃g,gk=g+1:=⟨gk-1,by omega⟩;have hx3:decide (3≤(xs.length:Int))=false:=by simp;omega
    have hc0:=(hc m.toNat (by omega)).1;have hp1:=(hw.out m.toNat (by omega)).1
    have hres1:Hid ((xs++[m])++pathF l g (nP l m.toNat)=pathF l 3 n):=by
     show _=_;rw[←hres.out,pathF_in hin,List.append_assoc];rfl
    have hfit1:Hid (fitF l g (nP l m.toNat)=fitF l 3 n):=by
     show _=_;rw[←hfit.out,fitF_in hin]
    have HH:=κ hc;clear hc hin
    go_wp2_with (first
     |(at_builtin;refine wpList_app1 hown hbel rfl _ _ _ rfl i0 (.int .i64 0) 8 Tryz.underlying23 hi hz0 hz1 hz2 rfl (by decide) rfl rfl rfl [.int .i64 m] rfl rfl (by simp[Value.oneCell']) (by unfold maxLen;omega) (by omega) τ hbel.size hbel.size ?_;intro A1 c1 w1 hown1 hbel1 hsz1;have hc1:w1.cell? ⟨b,o+m.toNat*2,none⟩=some (.int .i64 (nP l m.toNat)):=(hbel1.cell (p:=⟨b,o+m.toNat*2,none⟩) hb).trans hc0))
    go_roundg g
    case measure=>omega
    case rel=>exact⟨nP l m.toNat,xs++[m],A1,c1,by simp;omega,hp1,rfl,by simp,hres1,hfit1,by rw[List.length_append,ints_snoc];exact hown1,hbel1⟩
   ·have hx3:decide (3≤(xs.length:Int))=true:=by simp;omega
    have hres1:Hid (pathF l 3 n=xs):=by
     show _=_;rw[←hres.out,show gk=0 by omega];simp[pathF]
    have hfit1:Hid (fitF l 3 n=false):=by
     show _=_;rw[←hfit.out,show gk=0 by omega];simp[fitF,hin]
    clear hc hin
    go_wp2_with fail
    go_ret2;exact madeIB_mk hres1.out hfit1.out hris.out hbel
  ·have hin:inR l.length m=false:=by simpa using hin
   have hres1:Hid (pathF l 3 n=xs):=by
    show _=_;rw[←hres.out,pathF_out hin];simp
   have hfit1:Hid (fitF l 3 n=true):=by
    show _=_;rw[←hfit.out,fitF_out hin]
   have hq:m<0∨l.length≤m:=by
    by_cases h0:m<0
    ·exact .inl h0
    ·right;by_cases h1:m<l.length
     ·have:=inR_t (n:=l.length) (k:=m) (by omega) h1;rw[this]at hin;cases hin
     ·omega
   clear hin;by_cases h0:m<0
   ·go_wp2_with fail
    go_ret2;exact madeIB_mk hres1.out hfit1.out hris.out hbel
   ·have h1:l.length≤m:=by omega
    have h2:0≤m:=by omega
    clear hq
    go_wp2_with fail
    go_ret2;exact madeIB_mk hres1.out hfit1.out hris.out hbel
theorem rpath_any(A:Option Addr)(c:Nat)(l:List (Int×Int))(n:Int)(w:World)(hl:Hid (Nds w w.heap.size A l))(hw:Hid (WfN l))(hmax:(l.length:Int)≤9223372036854775807)(hn:inI n):
  Calls Tryz.prog 56 #[.slice A l.length c,.int .i64 n] w (MadeI (pathF l 3 n) w):=by
 go_enter Tryz.func56,Tryz.ntmps56
 go_wp2_with (go_at_call 95;refine(rclimb_any _ _ _ _ _ hl hw hmax hn).mono ?_;rintro e w1 ⟨A',c',rfl,hr,hb⟩;have HR:=κ hr;clear hr)
 go_ret;exact madeI_mk rfl HR.out hb
theorem climbF_go(h:top l 3 k=true):climbF l (g+1) k=climbF l g (k+1):=by rw[climbF,if_pos h]
end Ref3
namespace Law3
open Tre Ref3
variable {xs ys:List Int} {w w':World}
theorem node_info:(Tryz.prog.info? 141).map (fun i=>(i.zero,i.size,i.bytes))=some (some (.agg #[.int .i64 0,.int .i64 0]),2,16):=by kernel_rfl
theorem rnode_info:(Tryz.prog.info? 144).map (fun i=>(i.zero,i.size,i.bytes))=some (some (.agg #[.int .i64 0,.int .i64 0]),2,16):=by kernel_rfl
def MadeNds(l:List (Int×Int))(w:World)(e:Ending)(w':World):Prop:= ∃A c,e= .returned (.slice A l.length c)∧Nds w' w'.heap.size A l∧Below w.heap.size w w'
theorem madeNds_mk{xs ys:List (Int×Int)}{A:Option Addr}{c:Nat}(h:ys=xs)(hr:Nds w' w'.heap.size A xs)(hb:Below w.heap.size w w'):MadeNds ys w (.returned (.slice A xs.length c)) w':=by
 subst h;exact⟨A,c,rfl,hr,hb⟩
theorem take_snoc{l:List (Int×Int)}{k:Nat}(h:k<l.length):l.take (k+1)=l.take k++[(nP l k,nC l k)]:=by
 have e:l[k]=(nP l k,nC l k):=by simp[nP,nC,h]
 rw[List.take_succ_eq_append_getElem h,e]
theorem to_any(A:Option Addr)(c:Nat)(l:List (Int×Int))(w:World)(hl:Hid (Nds w w.heap.size A l))(hw:Hid (WfN l))(hmax:(l.length:Int)≤1000000):
  Calls Tryz.prog 27 #[.slice A l.length c] w (MadeNds l w):=by
 obtain⟨i0,hi,hz0,hz1,hz2⟩:=info_parts node_info
 go_enter Tryz.func27,Tryz.ntmps27
 go_wp2
 go_loopg [3,4] l.length (fun g s3 s4 w'=> ∃(k:Nat) (A':Option Addr) (c':Nat),k+g=l.length∧s4= ι k∧s3= .slice A' k c'∧Hid (w'.ownsRow w.heap.size 141 2 (.slice A' k c') k (nds (l.take k)))∧Below w.heap.size w w')
 case atStart=>exact⟨0,none,0,by omega,rfl,rfl,World.ownsRow_nil _ _ _ _,Below.refl _ _⟩
 case round=>
  obtain⟨k,A',c',hk,rfl,rfl,hown,hbel⟩:=hrel;by_cases hlt:(k:Int)<(l.length:Int)
  ·obtain⟨g,rfl⟩: ∃g,gk=g+1:=⟨gk-1,by omega⟩;obtain⟨b,o,rfl,hb,hc⟩:=Nds.at hl.out (by omega);have hc0:wr.cell? (α b (o+k*2))=some (ι (nP l k)):=(hbel.cell (p:=(α b (o+k*2))) hb).trans (hc k (by omega)).1;have hc1:wr.cell? (α b (o+k*2+1))=some (ι (nC l k)):=(hbel.cell (p:=(α b (o+k*2+1))) hb).trans (hc k (by omega)).2;clear hc
   go_wp2_with fail
   have hpre:Hid (nds (l.take (k+1))=nds (l.take k)++[ι (nP l k),ι (nC l k)]):=by show _=_;rw[take_snoc (by omega),nds_snoc]
   go_region_law ((refine step_app1 (own_drew hown) (below_drew hbel) rfl _ _ _ rfl i0 (.agg #[.int .i64 0,.int .i64 0]) 16 Tryz.underlying37 hi hz0 hz1 hz2 rfl (by decide) rfl rfl rfl [.int .i64 (nP l k),.int .i64 (nC l k)] rfl rfl (by simp[Value.oneCell']) (by unfold maxLen;omega) (by omega) τ hbel.size hbel.size ?_;intro A1 c1 w1 hown1 hbel1 hsz1))
   all_goals
    go_wp2_with fail
    go_roundg g
    case measure=>omega
    case rel=>exact⟨k+1,A1,c1,by omega,by go_num,rfl,by rw[hpre.out];exact hown1,hbel1⟩
  ·obtain rfl:k=l.length:=by omega
   have hris:Hid (Nds wr wr.heap.size A' l):=by
    have:=Rd.of_own hown.out;rwa[List.take_length]at this
   go_wp2_with fail
   go_ret;exact madeNds_mk rfl hris.out hbel
def MadeB(b:Bool)(w:World)(e:Ending)(w':World):Prop:=e= .returned (.bool b)∧Below w.heap.size w w'
theorem madeB_mk{b b':Bool}(h:b'=b)(hb:Below w.heap.size w w'):MadeB b' w (.returned (.bool b)) w':=by subst h;exact⟨rfl,hb⟩
end Law3
end Go.Proofs.YtfbajlcljfjbkaaGreat
