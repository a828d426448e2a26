/- Texts side by side. -/
import Derived.Laws.CopyOwn
import Derived.Laws.Bits64b
import Derived.Deep.OwnRows
import Derived.Deep.RegionWith
import Derived.Test.YtaeddnjjeholgaaGreatUgaq
set_option linter.unusedVariables false
set_option linter.unusedSimpArgs false
set_option maxRecDepth 100000
set_option maxHeartbeats 16000000
namespace Go.Proofs.YtaeddnjjeholgaaGreat
namespace Abv
open Go
abbrev vB (x0 : Int) (x1 : Int) (x2 : Option Addr) (y2 z2 : Nat) (x3 : Option Addr) (y3 z3 : Nat) : Array Value := #[.int .i64 x0, .int .i64 x1, .slice x2 y2 z2, .slice x3 y3 z3]
abbrev vC (x0 : Int) (x1 : Int) (x2 : Int) (x3 : Int) (x4 : Option Addr) (y4 z4 : Nat) (x5 : Option Addr) (y5 z5 : Nat) (x6 : Option Addr) (y6 z6 : Nat) : Array Value := #[.int .i64 x0, .int .i64 x1, .int .i64 x2, .int .i64 x3, .slice x4 y4 z4, .slice x5 y5 z5, .slice x6 y6 z6]
abbrev vM (x0 : Int) (x1 : Int) (x2 : Int) (x3 : Bool) (x4 : Int) (x5 : Int) (x6 : Int) (x7 : Int) (x8 : Int) (x9 : Int) (x10 : Int) (x11 : Int) : Array Value := #[.int .i64 x0, .int .i64 x1, .int .i64 x2, .bool x3, .int .i64 x4, .int .i64 x5, .int .i64 x6, .int .i64 x7, .int .i64 x8, .int .i64 x9, .int .i64 x10, .int .i64 x11]
abbrev vE (x0 : Int) (x1 : Int) (x2 : Int) (x3 : Bool) (x4 : Int) (x5 : Int) (x6 : Int) (x7 : Int) (x8 : Int) (x9 : Int) (x10 : Int) : Array Value := #[.int .i64 x0, .int .i64 x1, .int .i64 x2, .bool x3, .int .i64 x4, .int .i64 x5, .int .i64 x6, .int .i64 x7, .int .i64 x8, .int .i64 x9, .int .i64 x10]
abbrev vO (x0 : Int) (x1 : Int) (x2 : Bool) (x3 : Int) (x4 : Int) (x5 : Int) (x6 : Int) : Array Value := #[.int .i64 x0, .int .i64 x1, .bool x2, .int .i64 x3, .int .i64 x4, .int .i64 x5, .int .i64 x6]
abbrev vS (x0 : Option Addr) (y0 z0 : Nat) (x1 : Option Addr) (y1 z1 : Nat) : Array Value := #[.slice x0 y0 z0, .slice x1 y1 z1]
abbrev vI (x0 : Int) (x1 : Int) : Array Value := #[.int .i64 x0, .int .i64 x1]
abbrev vR (x0 : Option Addr) (y0 z0 : Nat) (x1 : Int) (x2 : Int) : Array Value := #[.slice x0 y0 z0, .int .i64 x1, .int .i64 x2]
abbrev vF (x0 : Int) (x1 : Int) (x2 : Int) (x3 : Nat) : Array Value := #[.int .i64 x0, .int .i64 x1, .int .i64 x2, .float .f64 x3]
end Abv
namespace Tre
open Kap Abv Go.ChangeShapes Go.WideShapes Go.ChangeAt Go.RowKit Mem
def inR(n:Nat)(k:Int):Bool:=decide (0≤k)&&decide (k<n)
variable {b k:Int} {l:List (Int×Int)} {xs ys:List Int} {a c g n:Nat} {A:Option Addr} {w w':World}
theorem inR_t(h:0≤k)(h':k<n):inR n k=true:=by unfold inR;simp[h,h']
theorem inR_f(h:k<0∨n≤k):inR n k=false:=by unfold inR;simp;omega
theorem inR_of(h:inR n k=true):0≤k∧k<n:=by unfold inR at h;simpa using h
def top(l:List (Int×Int)):Nat→Nat→Bool
 |0,_=>false
 |d+1,a=>nP l a== -1||top l d (nP l a).toNat
def Par(l:List (Int×Int)):Prop:= ∀i,i<l.length→ -1≤nP l i∧nP l i<l.length
def climbF(l:List (Int×Int)):Nat→Nat→Int×Int
 |0,_=>(0,-1)
 |g+1,k=>if top l 3 k then climbF l g (k+1) else (16,k)
def scanF(l:List (Int×Int)):Nat→Nat→Int×Int
 |0,_=>climbF l l.length 0
 |g+1,k=>if nP l k= -1∨inR l.length (nP l k)=true then (if 0≤nC l k∧nC l k≤4611686018427387904 then scanF l g (k+1) else (1,k)) else (18,k)
def chk(l:List (Int×Int)):Int×Int:=
 if 32<l.length then (11,0) else if l.length=0 then (1,0) else scanF l l.length 0
theorem top_m1(h:nP l a= -1):top l (g+1) a=true:=by unfold top;simp[h]
theorem top_up(h:(nP l a== -1)=false):top l (g+1) a=top l g (nP l a).toNat:=by
 rw[top,h];simp
def pathF(l:List (Int×Int)):Nat→Int→List Int
 |0,_=>[]
 |g+1,n=>if inR l.length n then n :: pathF l g (nP l n.toNat) else []
def fitF(l:List (Int×Int)):Nat→Int→Bool
 |0,n=> !inR l.length n
 |g+1,n=>if inR l.length n then fitF l g (nP l n.toNat) else true
theorem fit_top(hp:Par l): ∀(g a:Nat),a<l.length→fitF l g a=top l g a
 |0,a,h=>by simp[fitF,top,inR_t (n:=l.length) (k:=a) (by omega) (by omega)]
 |g+1,a,h=>by
  have hb:=hp a h
  rw[fitF,if_pos (inR_t (by omega) (by omega)),Int.toNat_natCast]
  by_cases e:nP l a= -1
  ·rw[top_m1 e,e]
   have:inR l.length (-1)=false:=inR_f (by omega)
   cases g<;>simp[fitF,this]
  ·have e':(nP l a== -1)=false:=by simp[e]
   rw[top_up e',←fit_top hp g _ (by omega)]
   congr 1
   omega
def ToldB(b:Bool)(w:World)(e:Ending)(w':World):Prop:=e= .returned (.bool b)∧w=w'
def Told2(p:Int×Int)(w:World)(e:Ending)(w':World):Prop:=e= .returned (.tuple #[.int .i64 p.1,.int .i64 p.2])∧w=w'
def Made2(p:Int×Int)(w:World)(e:Ending)(w':World):Prop:=e= .returned (.tuple #[.int .i64 p.1,.int .i64 p.2])∧Below w.heap.size w w'
theorem told2{p:Int×Int}{a:Int}(h:p=(a,b)):Told2 p w (.returned (.tuple #[.int .i64 a,.int .i64 b])) w:=by subst h;exact⟨rfl,rfl⟩
theorem made2{p:Int×Int}{a:Int}(h:p=(a,b))(hb:Below w.heap.size w w'):Made2 p w (.returned (.tuple #[.int .i64 a,.int .i64 b])) w':=by subst h;exact⟨rfl,hb⟩
theorem has_any(A:Option Addr)(n c:Nat)(k:Int)(w:World):
  Calls Tryz.prog 92 #[.slice A n c,.int .i64 k] w (ToldB (inR n k) w):=by
 by_cases h0:0≤k
 ·by_cases h1:k<n
  ·go_enter Tryz.func92,Tryz.ntmps92
   go_wp2
   go_ret;exact⟨by rw[inR_t h0 h1];rfl,rfl⟩
  ·go_enter Tryz.func92,Tryz.ntmps92
   go_wp2
   go_ret;exact⟨by rw[inR_f (by omega)];rfl,rfl⟩
 ·go_enter Tryz.func92,Tryz.ntmps92
  go_wp2
  go_ret;exact⟨by rw[inR_f (by omega)];rfl,rfl⟩
theorem climb_any(b o c:Nat)(l:List (Int×Int))(w:World)(hn:l.length≤32)(hpar:Hid (Par l))
  (hp:Hid (∀i,i<l.length→w.cell? ⟨b,o+i*2,none⟩=some (.int .i64 (nP l i)))):
  Calls Tryz.prog 93 #[.slice (some ⟨b,o,none⟩) l.length c] w (Told2 (climbF l l.length 0) w):=by
 go_enter Tryz.func93,Tryz.ntmps93
 go_wp2
 go_step3
 go_wp2
 go_step3
 go_wp2
 go_loopg [8] l.length (fun g s8 w'=> ∃k:Nat,k+g=l.length∧s8= ι k∧Hid (climbF l g k=climbF l l.length 0)∧w=w')
 case atStart=>exact⟨0,by omega,rfl,rfl,rfl⟩
 case round=>
  obtain⟨k,hk,rfl,hall,rfl⟩:=hrel;obtain⟨g0,rfl⟩: ∃g:Nat,g=gk:=⟨_,rfl⟩;by_cases hlt:(k:Int)<(l.length:Int)
  ·go_wp2
   go_loopg [5,12] 3 (fun g s5 s12 w'=> ∃a:Nat,a<l.length∧s5= ι a∧s12= ι ((3:Int)-g)∧g≤3∧Hid (top l g a=top l 3 k)∧w=w')
   case atStart=>exact⟨k,by omega,rfl,rfl,by omega,rfl,rfl⟩
   case round=>
    obtain⟨a,ha,rfl,rfl,hg,ht,rfl⟩:=hrel;have hc:=hp.out a ha;have hb:=hpar.out a ha;by_cases hz:gk=0
    ·subst hz
     have ht':Hid (climbF l l.length 0=(16,(k:Int))):=by
      show _=_;rw[←hall.out,show g0=(g0-1)+1 by omega,climbF,←ht.out];rfl
     go_wp2
     rw[Exit.noGoto_ret];go_ret2;exact told2 ht'.out
    ·obtain⟨g,rfl⟩: ∃g,gk=g+1:=⟨gk-1,by omega⟩;by_cases hm:nP l a= -1
     ·have ht':top l 3 k=true:=by rw[←ht.out];exact top_m1 hm
      have hall':Hid (climbF l (g0-1) (k+1)=climbF l l.length 0):=by
       show _=_;rw[←hall.out,show g0=(g0-1)+1 by omega,climbF,ht'];rfl
      have hm':(nP l a== -1)=true:=by simp[hm]
      have HM:=κ hm;clear hm ht' ht
      go_wp2
      go_roundg (g0-1)
      case measure=>omega
      case rel=>exact⟨k+1,by omega,by go_num,hall',rfl⟩
     ·have hm':(nP l a== -1)=false:=by simp[hm]
      have ht':Hid (top l g (nP l a).toNat=top l 3 k):=by
       show _=_;rw[←ht.out];exact(top_up hm').symm
      go_wp2
      go_roundg g
      case measure=>omega
      case rel=>exact⟨(nP l a).toNat,by omega,by congr 1;omega,by congr 1;omega,by omega,ht',rfl⟩
  ·have hall':Hid (climbF l l.length 0=(0,-1)):=by
    show _=_;rw[←hall.out,show g0=0 by omega];rfl
   go_wp2
   try rw[Exit.noGoto_ret]
   go_ret2;exact told2 hall'.out
theorem scan_18{k:Nat}(h:(nP l k != -1)=true)(h':inR l.length (nP l k)=false):scanF l (g+1) k=(18,(k:Int)):=by
 rw[scanF,if_neg];simp at h;simp[h,h']
theorem scan_1{k:Nat}(h:nP l k= -1∨inR l.length (nP l k)=true)(h':nC l k<0∨4611686018427387904<nC l k):scanF l (g+1) k=(1,(k:Int)):=by
 rw[scanF,if_pos h,if_neg (by omega)]
theorem scan_go{k:Nat}(h:nP l k= -1∨inR l.length (nP l k)=true)(h':0≤nC l k)(h'':nC l k≤4611686018427387904):scanF l (g+1) k=scanF l g (k+1):=by
 rw[scanF,if_pos h,if_pos ⟨h',h''⟩]
theorem check_any(A:Option Addr)(c:Nat)(l:List (Int×Int))(w:World)(hl:Nds w w.heap.size A l)(hw:Hid (WfN l))(hmax:(l.length:Int)≤9223372036854775807):
  Calls Tryz.prog 64 #[.slice A l.length c] w (Made2 (chk l) w):=by
 by_cases h32:32<l.length
 ·go_enter Tryz.func64,Tryz.ntmps64
  go_wp2
  go_ret2;exact made2 (by rw[chk,if_pos h32]) ψ
 by_cases h0:l.length=0
 ·have h0':=List.eq_nil_of_length_eq_zero h0;subst h0'
  go_enter Tryz.func64,Tryz.ntmps64
  go_wp2
  go_ret2;exact made2 rfl ψ
 obtain⟨b,o,rfl,hb,hc⟩:=hl.at (by omega);have HC:=κ hc;have H0:((l.length:Int)==0)=false:=beq_eq_false_iff_ne.2 (by omega);have hchk:Hid (chk l=scanF l l.length 0):=by show _=_;rw[chk,if_neg h32,if_neg h0]
 clear hc hl h0
 go_enter Tryz.func64,Tryz.ntmps64
 go_wp2
 go_loopg [14] l.length (fun g s14 w'=> ∃k:Nat,k+g=l.length∧s14= ι k∧Hid (scanF l g k=scanF l l.length 0)∧Hid (∀j,j<k→nP l j= -1∨inR l.length (nP l j)=true)∧Below w.heap.size w w')
 case atStart=>exact⟨0,by omega,rfl,rfl,fun j hj=>absurd hj (Nat.not_lt_zero j),Below.refl _ _⟩
 case round=>
  obtain⟨k,hk,rfl,hall,hpar,hbel⟩:=hrel;by_cases hlt:(k:Int)<(l.length:Int)
  ·obtain⟨g,rfl⟩: ∃g,gk=g+1:=⟨gk-1,by omega⟩;have hc0:=(hbel.cell (p:=(α b (o+k*2))) hb).trans (HC.out k (by omega)).1;have hc1:=(hbel.cell (p:=(α b (o+k*2+1))) hb).trans (HC.out k (by omega)).2;have hbel2:=hbel.alloc hbel.size (.cells (vI (nP l k) (nC l k)) 102);by_cases hP:nP l k= -1∨inR l.length (nP l k)=true
   ·by_cases hC:0≤nC l k∧nC l k≤4611686018427387904
    ·have hall':=κ ((scan_go hP hC.1 hC.2).symm.trans hall.out)
     have hpar':Hid (∀j,j<k+1→nP l j= -1∨inR l.length (nP l j)=true):=fun j hj=>by
      by_cases e:j=k
      ·subst e;exact hP
      ·exact hpar.out j (by omega)
     obtain⟨hC0,hC1⟩:=hC;by_cases hm:nP l k= -1
     ·have h1:(nP l k != -1)=false:=by simp[hm]
      have h1':(nP l k== -1)=true:=by simp[hm]
      clear hm hP
      go_wp2_with fail
      go_roundg g
      case measure=>omega
      case rel=>exact⟨k+1,by omega,by go_num,hall',hpar',hbel2⟩
     ·have h1:(nP l k != -1)=true:=by simp[hm]
      have h1':(nP l k== -1)=false:=by simp[hm]
      have h2:=hP.resolve_left hm;clear hm hP
      go_wp2_with (go_at_call 92;refine(has_any _ _ _ _ _).mono ?_;rintro e w' ⟨rfl,rfl⟩)
      go_roundg g
      case measure=>omega
      case rel=>exact⟨k+1,by omega,by go_num,hall',hpar',hbel2⟩
    ·have hres:Hid (scanF l l.length 0=(1,(k:Int))):=by
      show _=_;rw[←hall.out];exact scan_1 hP (by omega)
     by_cases hm:nP l k= -1
     ·have h1:(nP l k != -1)=false:=by simp[hm]
      have h1':(nP l k== -1)=true:=by simp[hm]
      clear hm hP;by_cases hC0:nC l k<0
      ·go_wp2_with fail
       go_ret2;exact made2 (hchk.out.trans hres.out) hbel2
      ·have hC1:4611686018427387904<nC l k:=by omega
       clear hC
       go_wp2_with fail
       go_ret2;exact made2 (hchk.out.trans hres.out) hbel2
     ·have h1:(nP l k != -1)=true:=by simp[hm]
      have h1':(nP l k== -1)=false:=by simp[hm]
      have h2:=hP.resolve_left hm;clear hm hP;by_cases hC0:nC l k<0
      ·go_wp2_with (go_at_call 92;refine(has_any _ _ _ _ _).mono ?_;rintro e w' ⟨rfl,rfl⟩)
       go_ret2;exact made2 (hchk.out.trans hres.out) hbel2
      ·have hC1:4611686018427387904<nC l k:=by omega
       clear hC
       go_wp2_with (go_at_call 92;refine(has_any _ _ _ _ _).mono ?_;rintro e w' ⟨rfl,rfl⟩)
       go_ret2;exact made2 (hchk.out.trans hres.out) hbel2
   ·have hm: ¬nP l k= -1:=fun e=>hP (.inl e)
    have h1:(nP l k != -1)=true:=by simp[hm]
    have h1':(nP l k== -1)=false:=by simp[hm]
    have h2:inR l.length (nP l k)=false:=by
     cases h:inR l.length (nP l k)
     ·rfl
     ·exact absurd (.inr h) hP
    have hres:Hid (scanF l l.length 0=(18,(k:Int))):=by
     show _=_;rw[←hall.out];exact scan_18 h1 h2
    clear hm hP
    go_wp2_with (go_at_call 92;refine(has_any _ _ _ _ _).mono ?_;rintro e w' ⟨rfl,rfl⟩)
    go_ret2;exact made2 (hchk.out.trans hres.out) hbel2
  ·have hres:Hid (scanF l l.length 0=climbF l l.length 0):=by
    show _=_;rw[←hall.out,show gk=0 by omega];rfl
   have hpar':Hid (Par l):=by
    intro i hi;rcases hpar.out i (by omega) with h|h
    ·omega
    ·have:=inR_of h;omega
   have hp':=κ <| fun i hi=>
    (hbel.cell (p:=⟨b,o+i*2,none⟩) hb).trans (HC.out i hi).1
   go_wp2_with (go_at_call 93;refine(climb_any b o c l _ (by omega) hpar' hp').mono ?_;rintro e w' ⟨rfl,rfl⟩)
   go_ret2;exact made2 (hchk.out.trans hres.out) hbel
theorem int_info:(Tryz.prog.info? 3).map (fun i=>(i.zero,i.size,i.bytes))=some (some (.int .i64 0),1,8):=by kernel_rfl
def MadeI(xs:List Int)(w:World)(e:Ending)(w':World):Prop:= ∃A c,e= .returned (.slice A xs.length c)∧Ris w' w'.heap.size A xs∧Below w.heap.size w w'
theorem madeI_mk(h:ys=xs)(hr:Ris w' w'.heap.size A xs)(hb:Below w.heap.size w w'):MadeI ys w (.returned (.slice A xs.length c)) w':=by
 subst h;exact⟨A,c,rfl,hr,hb⟩
def MadeIF(xs:List Int)(w:World)(e:Ending)(w':World):Prop:= ∃A c,e= .returned (.slice A xs.length c)∧Ris w' w'.heap.size A xs∧(∀a,A=some a→w.heap.size≤a.block)∧Below w.heap.size w w'
theorem madeIF_mk(h:ys=xs)(hr:Ris w' w'.heap.size A xs)(hf: ∀a,A=some a→w.heap.size≤a.block)(hb:Below w.heap.size w w'):MadeIF ys w (.returned (.slice A xs.length c)) w':=by
 subst h;exact⟨A,c,rfl,hr,hf,hb⟩
theorem own_fresh{base:Nat}{e:TypeId}{size m:Nat}{xs:List Value}(h:w.ownsRow base e size (.slice A m c) n xs): ∀a,A=some a→base≤a.block:=by
 rintro a rfl;rcases h.2 with⟨h1,_⟩|⟨g,cap,cur,h1,h2,_⟩
 ·cases h1
 ·injection h1 with h1;injection h1 with h1;subst h1;exact h2
theorem pathF_out{n:Int}(h:inR l.length n=false):pathF l g n=[]:=by
 cases g<;>simp[pathF,h]
theorem pathF_in{n:Int}(h:inR l.length n=true):pathF l (g+1) n=n :: pathF l g (nP l n.toNat):=by
 rw[pathF,if_pos h]
theorem path_fresh(A:Option Addr)(c:Nat)(l:List (Int×Int))(n:Int)(w:World)(hl:Nds w w.heap.size A l)(hw:Hid (WfN l))(hmax:(l.length:Int)≤9223372036854775807)(hn:inI n):
  Calls Tryz.prog 150 #[.slice A l.length c,.int .i64 n] w (MadeIF (pathF l 3 n) w):=by
 obtain⟨i0,hi,hz0,hz1,hz2⟩:=info_parts int_info;have HL:=κ hl;clear hl
 go_enter Tryz.func150,Tryz.ntmps150
 go_wp2
 go_loopg [1,5] 3 (fun g s1 s5 w'=> ∃(m:Int) (xs:List Int) (A':Option Addr) (c':Nat),xs.length+g=3∧inI m∧s1= ι m∧s5= .slice A' xs.length c'∧Hid (xs++pathF l g m=pathF l 3 n)∧Hid (w'.ownsRow w.heap.size 3 1 (.slice A' xs.length c') xs.length (ints xs))∧Below w.heap.size w w')
 case atStart=>exact⟨n,[],none,0,by simp,hn,rfl,rfl,rfl,World.ownsRow_nil _ _ _ _,Below.refl _ _⟩
 case round=>
  obtain⟨m,xs,A',c',hg,hm,rfl,rfl,hres,hown,hbel⟩:=hrel;by_cases hin:inR l.length m=true
  ·by_cases h3:xs.length<3
   ·obtain⟨g,rfl⟩: ∃g,gk=g+1:=⟨gk-1,by omega⟩;have hx3:decide ((xs.length:Int)<3)=true:=by simp;omega
    obtain⟨hr0,hr1⟩:=inR_of hin;obtain⟨b,o,rfl,hb,hc⟩:=Nds.at HL.out (by omega);have hc0:=(hc m.toNat (by omega)).1;have hp1:=(hw.out m.toNat (by omega)).1
    have hres1:Hid ((xs++[m])++pathF l g (nP l m.toNat)=pathF l 3 n):=by
     show _=_;rw[←hres.out,pathF_in hin,List.append_assoc];rfl
    go_wp2_with (first
     |(at_builtin;refine wpList_app1 hown hbel rfl _ _ _ rfl i0 (.int .i64 0) 8 Tryz.underlying23 hi hz0 hz1 hz2 rfl (by decide) rfl rfl rfl [.int .i64 m] rfl rfl (by simp[Value.oneCell']) (by unfold maxLen;omega) (by omega) τ hbel.size hbel.size ?_;intro A1 c1 w1 hown1 hbel1 hsz1;have hc1:=(hbel1.cell (p:=⟨b,o+m.toNat*2,none⟩) hb).trans hc0)
     |(go_at_call 92;refine(has_any _ _ _ _ _).mono ?_;rintro e w' ⟨rfl,rfl⟩))
    go_roundg g
    case measure=>omega
    case rel=>exact⟨nP l m.toNat,xs++[m],A1,c1,by simp;omega,hp1,rfl,by simp,hres1,by rw[List.length_append,ints_snoc];exact hown1,hbel1⟩
   ·have hx3:decide ((xs.length:Int)<3)=false:=by simp;omega
    have hres1:Hid (xs=pathF l 3 n):=by
     show _=_;rw[←hres.out,show gk=0 by omega];simp[pathF]
    have hris:Hid (Ris wr wr.heap.size A' xs):=Rd.of_own hown.out;have hfr:=κ (own_fresh hown.out)
    go_wp2_with fail
    go_ret;exact madeIF_mk hres1.out.symm hris.out hfr.out hbel
  ·have hin:inR l.length m=false:=by simpa using hin
   have hres1:Hid (xs=pathF l 3 n):=by
    show _=_;rw[←hres.out,pathF_out hin];simp
   have hris:Hid (Ris wr wr.heap.size A' xs):=Rd.of_own hown.out;have hfr:=κ (own_fresh hown.out);by_cases h3:xs.length<3
   ·have hx3:decide ((xs.length:Int)<3)=true:=by simp;omega
    go_wp2_with (go_at_call 92;refine(has_any _ _ _ _ _).mono ?_;rintro e w' ⟨rfl,rfl⟩)
    go_ret;exact madeIF_mk hres1.out.symm hris.out hfr.out hbel
   ·have hx3:decide ((xs.length:Int)<3)=false:=by simp;omega
    go_wp2_with fail
    go_ret;exact madeIF_mk hres1.out.symm hris.out hfr.out hbel
end Tre
namespace Cx
open Go.ChangeShapes Go.WideShapes Go.ChangeAt Go.RowKit Mem Cel Cm Cn
theorem mask1 : bits .and .u64 1 4294967295 = 1 := by kernel_rfl
theorem maskY (y : Nat) (h : y < 4294967296) : bits .and .u64 (y : Int) 4294967295 = (y : Int) := by
  have e := bits_and_u64_nat y 4294967295 (by omega) (by omega)
  have e2 : y &&& 4294967295 = y % 4294967296 := Nat.and_two_pow_sub_one_eq_mod y 32
  rw [e2, Nat.mod_eq_of_lt h] at e
  exact e
theorem wrapU (y : Nat) (h : y < 4294967296) : IntKind.u64.wrap (y : Int) = (y : Int) := by rw [IntKind.wrap_u64]; omega
theorem divU (y : Nat) (h : y < 4294967296) : (y : Int) / 4294967296 = 0 := by omega
theorem mul64_1 (y : Nat) (hy : y < 4294967296) (w : World) : Calls Tryz.prog 144 #[.int .u64 1, .int .u64 y] w (ToldV (.tuple #[.int .u64 0, .int .u64 y]) w) := by
  have m1 := mask1
  have m2 := maskY y hy
  have m3 := wrapU y hy
  have m4 := divU y hy
  have m5 : IntKind.u64.wrap 0 = 0 := by kernel_rfl
  have m6 : bits .and .u64 0 4294967295 = 0 := by kernel_rfl
  go_enter Tryz.func144, Tryz.ntmps144
  go_wp2
  go_ret2
  exact toldV_mk (by simp [m1, m2, m3, m4, m5, m6])
theorem mul_1 (y : Nat) (hy : y < 4294967296) (w : World) : Calls Tryz.prog 96 #[.int .u64 1, .int .u64 y] w (ToldV (.tuple #[.int .u64 0, .int .u64 y]) w) := by
  have m3 := wrapU y hy
  have m7 : IntKind.u64.wrap 1 = 1 := by kernel_rfl
  go_enter Tryz.func96, Tryz.ntmps96
  go_wp2_with (go_at_call 144; refine (mul64_1 y hy _).mono ?_; rintro e w9 ⟨rfl, rfl⟩)
  go_ret2
  exact toldV_mk rfl
end Cx
namespace Cy
open Go.ChangeShapes Go.WideShapes Go.ChangeAt Go.RowKit Mem Cel Cm Cn Cx
theorem int_info : (Tryz.prog.info? 3).map (fun i => (i.zero, i.size, i.bytes)) = some (some (.int .i64 0), 1, 8) := by kernel_rfl
theorem i64_info : (Tryz.prog.info? 2).map (fun i => (i.zero, i.size, i.bytes)) = some (some (.int .i64 0), 1, 8) := by kernel_rfl
theorem int_size : (Tryz.prog.info? 3).map (·.size) = some 1 := by kernel_rfl
theorem made0 (n : Nat) : madeCells #[.int .i64 0] n = (ints (List.replicate n 0)).toArray := by
  apply Array.ext
  · simp [madeCells, ints]
  · intro i h1 h2
    simp [madeCells, ints, Nat.mod_one]
def half (n k : Nat) (y : Int) : List Int := List.replicate k y ++ List.replicate (n - k) 0
theorem half0 (n : Nat) (y : Int) : half n 0 y = List.replicate n 0 := by simp [half]
theorem halfn (n : Nat) (y : Int) : half n n y = List.replicate n y := by simp [half]
theorem half_len (n k : Nat) (y : Int) (h : k ≤ n) : (half n k y).length = n := by simp [half]; omega
theorem half_get (n k : Nat) (y : Int) {j : Nat} (h : j < k) : gI (half n k y) j = y := by simp [half, gI, h, List.getElem?_append]
theorem half_splice (n k m : Nat) (y : Int) (h : k + m ≤ n) : splice (ints (half n k y)) k (ints (List.replicate m y)) = ints (half n (k + m) y) := by
  unfold splice
  simp only [half, ints, List.map_append, List.map_replicate, List.length_replicate]
  rw [List.take_append_of_le_length (by simp), List.take_of_length_le (by simp), List.drop_append]
  simp
  rw [show n - (k + m) = n - k - m by omega, ← List.append_assoc, List.replicate_append_replicate]
def MadeRow (xs : List Int) (te : TypeId) (w : World) (e : Ending) (w' : World) : Prop :=
  ∃ gN, e = .returned (.slice (some ⟨gN, 0, none⟩) xs.length xs.length) ∧ Blk w' gN te (ints xs).toArray ∧ w.heap.size ≤ gN ∧ Below w.heap.size w w'
theorem madeRow_mk {xs : List Int} {n gN : Nat} {te : TypeId} {w w' : World} (hn : n = xs.length) (h : Blk w' gN te (ints xs).toArray) (hg : w.heap.size ≤ gN) (hb : Below w.heap.size w w') : MadeRow xs te w (.returned (.slice (some ⟨gN, 0, none⟩) n n)) w' := by
  subst hn; exact ⟨gN, rfl, h, hg, hb⟩
def SrcOk (w : World) (g : Nat) (cs : List Value) : Prop := ∀ j v, cs[j]? = some v → w.cell? ((⟨g, 0, none⟩ : Addr).add j) = some v
theorem repeat_any (gx : Nat) (y : Int) (n : Nat) (w : World) (hn : n ≤ 65536) (hx : w.cell? ⟨gx, 0, none⟩ = some (.int .i64 y)) (hgx : gx < w.heap.size) :
    Calls Tryz.prog 70 #[.slice (some ⟨gx, 0, none⟩) 1 1, .int .i64 n] w (MadeRow (List.replicate n y) 3 w) := by
  have u1 : IntKind.u64.wrap (n : Int) = (n : Int) := wrapU n (by omega)
  have u2 : wrap64 (n : Int) = (n : Int) := by unfold wrap64; omega
  have u3 : IntKind.u64.wrap 1 = 1 := by kernel_rfl
  have hmk : ∀ wx, (Instr.makeSlice 23 (.int .i64 (n : Int)) (.int .i64 (n : Int))).run Tryz.prog wx = .ok (.slice (some ⟨wx.heap.size, 0, none⟩) n n) (wx.alloc (.cells (madeCells #[.int .i64 0] n) 3)) := fun wx =>
    Go.run_make_row' 23 3 (.int .i64 0) 8 Tryz.underlying23 int_info rfl .i64 .i64 n (by omega) (by omega) wx
  go_enter Tryz.func70, Tryz.ntmps70
  go_upto_region 7 with (go_at_call 96; refine (mul_1 n (by omega) _).mono ?_; rintro e w9 ⟨rfl, rfl⟩)
  have hk0 : Hid ((w.alloc (.cells (madeCells #[.int .i64 0] n) 3)).heap[w.heap.size]? = some (.cells (ints (half n 0 y)).toArray 3 (0, 0))) := by
    show _ = _
    rw [heap_alloc_new, made0, half0]
  have hb0 : Below w.heap.size w (w.alloc (.cells (madeCells #[.int .i64 0] n) 3)) := (Below.refl _ _).alloc (Nat.le_refl _) _
  have hx0 : (w.alloc (.cells (madeCells #[.int .i64 0] n) 3)).cell? ⟨gx, 0, none⟩ = some (.int .i64 y) := (hb0.cell (p := ⟨gx, 0, none⟩) hgx).trans hx
  generalize (w.alloc (.cells (madeCells #[.int .i64 0] n) 3)) = wA at hk0 hb0 hx0 ⊢
  obtain ⟨m, hm⟩ : ∃ m, m = Nat.min 1 n := ⟨_, rfl⟩
  have hm1 : m ≤ 1 := by rw [hm]; exact Nat.min_le_left _ _
  have hmn : m ≤ n := by rw [hm]; exact Nat.min_le_right _ _
  have hm0 : n = 0 ∨ 0 < m := by rw [hm]; rcases Nat.eq_zero_or_pos n with h | h; exact .inl h; right; exact Nat.lt_min.2 ⟨by omega, h⟩
  have hcs : (ints (List.replicate m y)).length = Nat.min 1 n := by simp [ints, hm]
  have hsrc : 0 < (ints (List.replicate m y)).length → (some (⟨w.heap.size, 0, none⟩ : Addr)) = some ⟨w.heap.size, 0, none⟩ ∧ ∃ ad, (some (⟨gx, 0, none⟩ : Addr)) = some ad ∧ ∀ j v, (ints (List.replicate m y))[j]? = some v → wA.cell? (ad.add j) = some v := fun _ => ⟨rfl, _, rfl, fun j v hj => by
    have hjm : j < m := by have := (List.getElem?_eq_some_iff.1 hj).1; simpa [ints] using this
    have hj0 : j = 0 := by omega
    subst hj0
    simp [ints, hjm] at hj
    subst hj
    exact hx0⟩
  have hfit : 0 + (ints (List.replicate m y)).length ≤ (ints (half n 0 y)).length := by rw [hcs]; simp [ints, half_len n 0 y (by omega)]; exact Nat.min_le_right _ _
  have HM := Lib.hid hm
  have HS := Lib.hid hsrc
  have HC := Lib.hid hcs
  have HF := Lib.hid hfit
  clear hm hsrc hcs hfit hmk
  go_wp2_with (with_reducible refine wpList_copy_splice rfl (.tmp 31) (.tmp 32) 23 23 rfl 3 Tryz.underlying23 int_size (some ⟨w.heap.size, 0, none⟩) (some ⟨gx, 0, none⟩) n n 1 1 rfl rfl w.heap.size 0 (ints (half n 0 y)) 3 hk0.out (ints (List.replicate m y)) HC.out HS.out HF.out (ints_one _) w.heap.size w hb0 (Nat.le_refl _) ?_; intro wB hkB hbB)
  have hlm : (ints (List.replicate m y)).length = m := by simp [ints]
  have hkC : Hid (wB.heap[w.heap.size]? = some (.cells (ints (half n m y)).toArray 3 (0, 0))) := by
    have := hkB.out
    rw [half_splice n 0 m y (by omega), Nat.zero_add] at this
    exact this
  have hgN : w.heap.size < wB.heap.size := (Array.getElem?_eq_some_iff.1 hkC.out).1
  clear hkB HC HF HS hk0 hx0 hx hb0 HM
  simp only [hlm]
  clear hlm
  clear u1 u2 u3
  go_loopg [8] (n - m) (fun q s8 w' => ∃ k : Nat, k + q = n ∧ s8 = .int .i64 k ∧ (n = 0 ∨ 0 < k) ∧ Hid (w'.heap[w.heap.size]? = some (.cells (ints (half n k y)).toArray 3 (0, 0))) ∧ Below w.heap.size w w')
  case atStart => exact ⟨m, by omega, by go_num, hm0, hkC, hbB⟩
  case round =>
    obtain ⟨k, hk, rfl, hk0, hrow, hbr⟩ := hrel
    by_cases hlt : k < n
    · obtain ⟨d, hd⟩ : ∃ d, d = Nat.min k (n - k) := ⟨_, rfl⟩
      have hd1 : d ≤ k := by rw [hd]; exact Nat.min_le_left _ _
      have hd2 : d ≤ n - k := by rw [hd]; exact Nat.min_le_right _ _
      have hd0 : 0 < d := by rw [hd]; exact Nat.lt_min.2 ⟨by omega, by omega⟩
      have t0 : decide ((k : Int) < (n : Int)) = true := by simp; omega
      have hcs : Hid ((ints (List.replicate d y)).length = Nat.min k (n - k)) := by show _ = _; simp [ints, hd]
      have hld : Hid ((ints (List.replicate d y)).length = d) := by show _ = _; simp [ints]
      have hfit : Hid (k + (ints (List.replicate d y)).length ≤ (ints (half n k y)).length) := by show _ ≤ _; rw [hld.out]; simp [ints, half_len n k y (by omega)]; omega
      have hrowd : Hid (wr.drew.heap[w.heap.size]? = some (.cells (ints (half n k y)).toArray 3 (0, 0))) := hrow.out
      have hbd : Hid (Below w.heap.size w wr.drew) := hbr.drew
      have hsrc : Hid (SrcOk wr.drew w.heap.size (ints (List.replicate d y))) := fun j v hj => by
        have hjm : j < d := by have := (List.getElem?_eq_some_iff.1 hj).1; simpa [ints] using this
        have hv : v = .int .i64 y := by simp [ints, hjm] at hj; exact hj.symm
        subst hv
        rw [add_lit', Nat.zero_add]
        have h1 := blk_ints_cell (w := wr.drew) (g := w.heap.size) (te := 3) (xs := half n k y) hrowd.out (i := j) (by rw [half_len n k y (by omega)]; omega)
        rwa [half_get n k y (by omega)] at h1
      have HD := Lib.hid hd
      clear hd
      have es : IntKind.i64.wrap ((k : Int) + ((ints (List.replicate d y)).length : Int)) = ((k + d : Nat) : Int) := by rw [hld.out, IntKind.wrap_i64]; omega
      have f1 : k ≤ n := by omega
      have f2 : ¬ n = k := by omega
      have f3 : ¬ k = n := by omega
      have f4 : ¬ n - k = 0 := by omega
      go_wp2_with fail
      go_region_law (refine step_copy_splice rfl (.tmp 41) (.tmp 44) 23 23 rfl 3 Tryz.underlying23 int_size (some ⟨w.heap.size, k, none⟩) (some ⟨w.heap.size, 0, none⟩) (n - k) (n - k) k n (by simp [Act.eval, Act.put]) (by simp [Act.eval, Act.put]) w.heap.size k (ints (half n k y)) 3 hrowd.out (ints (List.replicate d y)) hcs.out (fun _ => ⟨rfl, _, rfl, hsrc.out⟩) hfit.out (ints_one _) w.heap.size w hbd.out (Nat.le_refl _) ?_; intro wB hkB hbB)
      all_goals
        have hrow2 : Hid (wB.heap[w.heap.size]? = some (.cells (ints (half n (k + d) y)).toArray 3 (0, 0))) := by
          have := hkB.out
          rw [half_splice n k d y (by omega)] at this
          exact this
        clear hkB hcs hsrc hfit hrow hrowd
        go_wp2_with fail
        simp [Act.put]
        go_roundg (gk - d)
        case measure => omega
        case rel => exact ⟨k + d, by omega, by go_num, by omega, hrow2, hbB⟩
    · have hkn : k = n := by omega
      subst hkn
      go_wp2_with fail
      go_ret
      exact madeRow_mk (by simp) (by have := hrow.out; rwa [halfn] at this) (Nat.le_refl _) hbr
end Cy
namespace Cz
open Go.ChangeShapes Go.WideShapes Go.ChangeAt Go.RowKit Mem Cel Cm Cn Cx Cy
def fitF (n : Int) : Bool := decide (0 ≤ n) && decide (n ≤ 65536)
theorem fit_t {n : Int} (h : 0 ≤ n) (h' : n ≤ 65536) : fitF n = true := by unfold fitF; simp [h, h']
theorem fit_f {n : Int} (h : n < 0 ∨ 65536 < n) : fitF n = false := by unfold fitF; simp; omega
theorem fits_any (n : Int) (w : World) : Calls Tryz.prog 69 #[.int .i64 n] w (ToldB (fitF n) w) := by
  by_cases h0 : 0 ≤ n
  · by_cases h1 : n ≤ 65536
    · go_enter Tryz.func69, Tryz.ntmps69
      go_wp2
      go_ret
      exact ⟨by rw [fit_t h0 h1]; rfl, rfl⟩
    · go_enter Tryz.func69, Tryz.ntmps69
      go_wp2
      go_ret
      exact ⟨by rw [fit_f (by omega)]; rfl, rfl⟩
  · go_enter Tryz.func69, Tryz.ntmps69
    go_wp2
    go_ret
    exact ⟨by rw [fit_f (by omega)]; rfl, rfl⟩
def MadeNew (n m : Nat) (v : Nat → Value) (te : TypeId) (w : World) (e : Ending) (w' : World) : Prop :=
  ∃ g gw gh, e = .returned (v g) ∧ Cs w' te g gw gh ⟨List.replicate n 0, List.replicate m (-1), 0⟩ ∧ w.heap.size ≤ g ∧ w.heap.size ≤ gw ∧ w.heap.size ≤ gh ∧ Below w.heap.size w w'
def vNew (g : Nat) : Value := .tuple #[.pointer (some ⟨g, 0, none⟩), .int .i64 0]
theorem madeNew_mk {n m gw gh : Nat} {te : TypeId} {w W : World} (v : Nat → Value) (hw : Blk W gw 2 (ints (List.replicate n 0)).toArray) (hh : Blk W gh 3 (ints (List.replicate m (-1))).toArray) (hne : gw ≠ gh) (h1 : w.heap.size ≤ gw) (h2 : w.heap.size ≤ gh) (hb : Below w.heap.size w W) :
    MadeNew n m v te w (.returned (v W.heap.size)) (W.alloc (.cells #[.slice (some ⟨gw, 0, none⟩) n n, .slice (some ⟨gh, 0, none⟩) m m, .int .i64 0] te)) := by
  refine ⟨W.heap.size, gw, gh, rfl, ⟨?_, hw.alloc _, hh.alloc _, ?_, ?_, hne⟩, hb.size, h1, h2, hb.alloc hb.size _⟩
  · have := Blk.fresh W te #[.slice (some ⟨gw, 0, none⟩) n n, .slice (some ⟨gh, 0, none⟩) m m, .int .i64 0]
    simpa using this
  · have := hw.lt; omega
  · have := hh.lt; omega
theorem new_any (n m : Nat) (w : World) (hn : n ≤ 65536) (hm : m ≤ 65536) :
    Calls Tryz.prog 35 #[.int .i64 n, .int .i64 m] w (MadeNew n m vNew 147 w) := by
  have f1 : Hid (fitF n = true) := fit_t (by omega) (by omega)
  have f2 : Hid (fitF m = true) := fit_t (by omega) (by omega)
  have hmk : ∀ wx, (Instr.makeSlice 144 (.int .i64 (n : Int)) (.int .i64 (n : Int))).run Tryz.prog wx = .ok (.slice (some ⟨wx.heap.size, 0, none⟩) n n) (wx.alloc (.cells (madeCells #[.int .i64 0] n) 2)) := fun wx =>
    Go.run_make_row' 144 2 (.int .i64 0) 8 Tryz.underlying144 i64_info rfl .i64 .i64 n (by omega) (by omega) wx
  obtain ⟨M, hM⟩ : ∃ M, M = Obj.cells (madeCells #[.int .i64 0] n) 2 := ⟨_, rfl⟩
  obtain ⟨L, hL⟩ : ∃ L, L = Obj.cells #[.int .i64 (-1)] 3 := ⟨_, rfl⟩
  have kM : ∀ wx : World, Hid (Blk (wx.alloc M) wx.heap.size 2 (ints (List.replicate n 0)).toArray) := fun wx => by
    subst hM; have := Blk.fresh wx 2 (madeCells #[.int .i64 0] n); rw [made0] at this ⊢; exact this
  have kL : ∀ wx : World, (wx.alloc L).cell? ⟨wx.heap.size, 0, none⟩ = some (.int .i64 (-1)) := fun wx => by
    subst hL; exact (Blk.fresh wx 3 #[.int .i64 (-1)]).cell 0
  have bM : ∀ wx : World, Below wx.heap.size wx (wx.alloc M) := fun wx => (Below.refl _ _).alloc (Nat.le_refl _) _
  have bL : ∀ wx : World, Below wx.heap.size wx (wx.alloc L) := fun wx => (Below.refl _ _).alloc (Nat.le_refl _) _
  have xA : Hid (((w.alloc M).alloc L).drew.cell? ⟨w.heap.size + 1, 0, none⟩ = some (.int .i64 (-1))) := by
    have := kL (w.alloc M); rw [World.size_alloc] at this; exact this
  have xB : Hid (((w.alloc L).alloc M).drew.cell? ⟨w.heap.size, 0, none⟩ = some (.int .i64 (-1))) :=
    ((bM (w.alloc L)).cell (p := ⟨w.heap.size, 0, none⟩) (by simp)).trans (kL w)
  have xC : Hid ((w.alloc L).drew.cell? ⟨w.heap.size, 0, none⟩ = some (.int .i64 (-1))) := kL w
  have sA : Hid (Below w.heap.size w ((w.alloc M).alloc L).drew ∧ Blk ((w.alloc M).alloc L).drew w.heap.size 2 (ints (List.replicate n 0)).toArray) :=
    ⟨(((Below.refl _ _).alloc (Nat.le_refl _) _).alloc (by simp) _).drew, ((kM w).out.alloc L)⟩
  have sB : Hid (Below w.heap.size w ((w.alloc L).alloc M).drew ∧ Blk ((w.alloc L).alloc M).drew (w.heap.size + 1) 2 (ints (List.replicate n 0)).toArray) := by
    refine ⟨(((Below.refl _ _).alloc (Nat.le_refl _) _).alloc (by simp) _).drew, ?_⟩
    have := (kM (w.alloc L)).out; rw [World.size_alloc] at this; exact this
  have sC : Hid (Below w.heap.size w (w.alloc L).drew) := ((Below.refl _ _).alloc (Nat.le_refl _) _).drew
  have sM : Hid (∀ wx : World, Blk (wx.alloc M) wx.heap.size 2 (ints (List.replicate n 0)).toArray) := fun wx => (kM wx).out
  clear kM kL bM bL
  subst hM hL
  go_enter Tryz.func35, Tryz.ntmps35
  go_upto_region 3 with (go_at_call 69; refine (fits_any _ _).mono ?_; rintro e w9 ⟨rfl, rfl⟩; first | rw [f1.out] | rw [f2.out])
  go_region_with (go_at_call 70; refine (repeat_any _ (-1) m _ (by omega) (by first | exact xA.out | exact xB.out | exact xC.out) (by simp <;> omega)).mono ?_; rintro e wR ⟨gN, rfl, kN, hN, bN⟩)
  · have hb := below_step sA.out.1 bN
    have hk := sA.out.2.below' bN
    have h3 : w.heap.size + 2 ≤ gN := by simpa using hN
    clear hmk xA xB xC sA sB sC sM
    go_wp2_with fail
    go_ret2
    exact madeNew_mk vNew hk kN (by omega) (by omega) (by omega) hb
  · have hb := below_step sB.out.1 bN
    have hk := sB.out.2.below' bN
    have h3 : w.heap.size + 2 ≤ gN := by simpa using hN
    clear hmk xA xB xC sA sB sC sM
    go_wp2_with fail
    go_ret2
    exact madeNew_mk vNew hk kN (by omega) (by omega) (by omega) hb
  · have hb := below_step sC.out bN
    have hk := sM.out wR
    have hb2 : Below w.heap.size w (wR.alloc (.cells (madeCells #[.int .i64 0] n) 2)) := hb.alloc hb.size _
    have kN2 : Blk (wR.alloc (.cells (madeCells #[.int .i64 0] n) 2)) gN 3 (ints (List.replicate m (-1))).toArray := kN.alloc _
    have h3 : w.heap.size + 1 ≤ gN := by simpa using hN
    have h4 := kN.lt
    clear hmk xA xB xC sA sB sC sM
    go_wp2_with fail
    go_ret2
    have := madeNew_mk (te := 147) vNew hk kN2 (by omega) (by omega) (by omega) hb2
    rw [World.size_alloc] at this
    exact this
theorem new_bad (n m : Int) (w : World) (h : fitF n = false ∨ fitF m = false) :
    Calls Tryz.prog 35 #[.int .i64 n, .int .i64 m] w (ToldV (.tuple #[.pointer none, .int .i64 1]) w) := by
  by_cases h1 : fitF n = false
  · have f1 := Lib.hid h1
    clear h1 h
    go_enter Tryz.func35, Tryz.ntmps35
    go_wp2_with (go_at_call 69; refine (fits_any _ _).mono ?_; rintro e w9 ⟨rfl, rfl⟩; rw [f1.out])
    go_ret2
    exact toldV_mk rfl
  · have f1 : Hid (fitF n = true) := by cases hh : fitF n with | true => rfl | false => exact absurd hh h1
    have f2 : Hid (fitF m = false) := h.resolve_left h1
    clear h1 h
    go_enter Tryz.func35, Tryz.ntmps35
    go_wp2_with (go_at_call 69; refine (fits_any _ _).mono ?_; rintro e w9 ⟨rfl, rfl⟩; first | rw [f1.out] | rw [f2.out])
    go_ret2
    exact toldV_mk rfl
end Cz
end Go.Proofs.YtaeddnjjeholgaaGreat
