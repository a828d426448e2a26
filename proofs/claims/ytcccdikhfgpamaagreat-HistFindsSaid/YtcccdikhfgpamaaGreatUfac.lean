/- Texts side by side. -/
import Derived.WalkKit
import Derived.OpenShut
import Derived.Outline
import Derived.LoopTactic
import Derived.Deep.LoopGhost
import Derived.BigQuiet
import Derived.Deep.QuietTactic
import Derived.RegionTactic
import Derived.Deep.RegionLaw
import Derived.Test.YtcccdikhfgpamaaGreatRows
import Derived.Test.YtcccdikhfgpamaaGreatUfaa
set_option linter.unusedVariables false
set_option linter.unusedSimpArgs false
set_option maxRecDepth 100000
set_option maxHeartbeats 16000000
namespace Go.Proofs.YtcccdikhfgpamaaGreat
open Kap Go.ChangeShapes Go.WideShapes Go.ChangeAt Go.RowKit Mem
namespace Tre
open Abv
def inR(n:Nat)(k:Int):Bool:=decide (0≤k)&&decide (k<n)
variable {b k:Int} {l:List (Int×Int)} {xs ys:List Int} {a c g n:Nat} {A:Option Addr} {w w':World}
theorem inR_t(h:0≤k)(h':k<n):inR n k=true:=by unfold inR;simp[h,h']
theorem inR_f(h:k<0∨n≤k):inR n k=false:=by unfold inR;simp;omega
theorem inR_of(h:inR n k=true):0≤k∧k<n:=by unfold inR at h;simpa using h
def top(l:List (Int×Int)):Nat→Nat→Bool
 |0,_=>false
 |d+1,a=>nP l a== -1||top l d (nP l a).toNat
def Par(l:List (Int×Int)):Prop:= ∀i,i<l.length→ -1≤nP l i∧nP l i<l.length
def climbF(l:List (Int×Int)):Nat→Nat→Int×Int
 |0,_=>(0,-1)
 |g+1,k=>if top l 3 k then climbF l g (k+1) else (16,k)
def scanF(l:List (Int×Int)):Nat→Nat→Int×Int
 |0,_=>climbF l l.length 0
 |g+1,k=>if nP l k= -1∨inR l.length (nP l k)=true then (if 0≤nC l k∧nC l k≤4611686018427387904 then scanF l g (k+1) else (1,k)) else (18,k)
def chk(l:List (Int×Int)):Int×Int:=
 if 32<l.length then (11,0) else if l.length=0 then (1,0) else scanF l l.length 0
theorem top_m1(h:nP l a= -1):top l (g+1) a=true:=by unfold top;simp[h]
theorem top_up(h:(nP l a== -1)=false):top l (g+1) a=top l g (nP l a).toNat:=by
 rw[top,h];simp
def pathF(l:List (Int×Int)):Nat→Int→List Int
 |0,_=>[]
 |g+1,n=>if inR l.length n then n :: pathF l g (nP l n.toNat) else []
def fitF(l:List (Int×Int)):Nat→Int→Bool
 |0,n=> !inR l.length n
 |g+1,n=>if inR l.length n then fitF l g (nP l n.toNat) else true
def ToldB(b:Bool)(w:World)(e:Ending)(w':World):Prop:=e= .returned (.bool b)∧w=w'
def Told2(p:Int×Int)(w:World)(e:Ending)(w':World):Prop:=e= .returned (.tuple #[.int .i64 p.1,.int .i64 p.2])∧w=w'
def Made2(p:Int×Int)(w:World)(e:Ending)(w':World):Prop:=e= .returned (.tuple #[.int .i64 p.1,.int .i64 p.2])∧Below w.heap.size w w'
theorem told2{p:Int×Int}{a:Int}(h:p=(a,b)):Told2 p w (.returned (.tuple #[.int .i64 a,.int .i64 b])) w:=by subst h;exact⟨rfl,rfl⟩
theorem made2{p:Int×Int}{a:Int}(h:p=(a,b))(hb:Below w.heap.size w w'):Made2 p w (.returned (.tuple #[.int .i64 a,.int .i64 b])) w':=by subst h;exact⟨rfl,hb⟩
theorem has_any(A:Option Addr)(n c:Nat)(k:Int)(w:World):
  Calls Tryz.prog 144 #[.slice A n c,.int .i64 k] w (ToldB (inR n k) w):=by
 by_cases h0:0≤k
 ·by_cases h1:k<n
  ·go_enter Tryz.func144,Tryz.ntmps144
   go_wp2
   go_ret;exact⟨by rw[inR_t h0 h1];rfl,rfl⟩
  ·go_enter Tryz.func144,Tryz.ntmps144
   go_wp2
   go_ret;exact⟨by rw[inR_f (by omega)];rfl,rfl⟩
 ·go_enter Tryz.func144,Tryz.ntmps144
  go_wp2
  go_ret;exact⟨by rw[inR_f (by omega)];rfl,rfl⟩
theorem climb_any(b o c:Nat)(l:List (Int×Int))(w:World)(hn:l.length≤32)(hpar:Hid (Par l))
  (hp:Hid (∀i,i<l.length→w.cell? ⟨b,o+i*2,none⟩=some (.int .i64 (nP l i)))):
  Calls Tryz.prog 145 #[.slice (some ⟨b,o,none⟩) l.length c] w (Told2 (climbF l l.length 0) w):=by
 go_enter Tryz.func145,Tryz.ntmps145
 go_wp2
 go_step3
 go_wp2
 go_step3
 go_wp2
 go_loopg [8] l.length (fun g r w'=> ∃k:Nat,k+g=l.length∧r= ι k∧Hid (climbF l g k=climbF l l.length 0)∧w=w')
 case atStart=>exact⟨0,by omega,rfl,rfl,rfl⟩
 case round=>
  obtain⟨k,t,rfl,f,rfl⟩:=hrel;obtain⟨h,rfl⟩: ∃g:Nat,g=gk:=⟨_,rfl⟩;by_cases hlt:(k:Int)<(l.length:Int)
  ·go_wp2
   go_loopg [5,12] 3 (fun g s p w'=> ∃a:Nat,a<l.length∧s= ι a∧p= ι ((3:Int)-g)∧g≤3∧Hid (top l g a=top l 3 k)∧w=w')
   case atStart=>exact⟨k,by omega,rfl,rfl,by omega,rfl,rfl⟩
   case round=>
    obtain⟨a,q,rfl,rfl,v,m,rfl⟩:=hrel;have x:=hp.o a q;have y:=hpar.o a q;by_cases hz:gk=0
    ·subst hz
     have e:Hid (climbF l l.length 0=(16,(k:Int))):=by
      show _=_;rw[←f.o,show h=(h-1)+1 by omega,climbF,←m.o];rfl
     go_wp2
     rw[Exit.noGoto_ret];go_ret2;exact told2 e.o
    ·obtain⟨g,rfl⟩: ∃g,gk=g+1:=⟨gk-1,by omega⟩;by_cases hm:nP l a= -1
     ·have e:top l 3 k=true:=by rw[←m.o];exact top_m1 hm
      have d:Hid (climbF l (h-1) (k+1)=climbF l l.length 0):=by
       show _=_;rw[←f.o,show h=(h-1)+1 by omega,climbF,e];rfl
      have j:(nP l a== -1)=true:=by simp[hm]
      have z:=κ hm;clear hm e m
      go_wp2
      go_roundg (h-1)
      case measure=>omega
      case rel=>exact⟨k+1,by omega,by go_num,d,rfl⟩
     ·have j:(nP l a== -1)=false:=by simp[hm]
      have e:Hid (top l g (nP l a).toNat=top l 3 k):=by
       show _=_;rw[←m.o];exact(top_up j).symm
      go_wp2
      go_roundg g
      case measure=>omega
      case rel=>exact⟨(nP l a).toNat,by omega,by congr 1;omega,by congr 1;omega,by omega,e,rfl⟩
  ·have d:Hid (climbF l l.length 0=(0,-1)):=by
    show _=_;rw[←f.o,show h=0 by omega];rfl
   go_wp2
   try rw[Exit.noGoto_ret]
   go_ret2;exact told2 d.o
theorem scan_18{k:Nat}(h:(nP l k != -1)=true)(h':inR l.length (nP l k)=false):scanF l (g+1) k=(18,(k:Int)):=by
 rw[scanF,if_neg];simp at h;simp[h,h']
theorem scan_1{k:Nat}(h:nP l k= -1∨inR l.length (nP l k)=true)(h':nC l k<0∨4611686018427387904<nC l k):scanF l (g+1) k=(1,(k:Int)):=by
 rw[scanF,if_pos h,if_neg (by omega)]
theorem scan_go{k:Nat}(h:nP l k= -1∨inR l.length (nP l k)=true)(h':0≤nC l k)(h'':nC l k≤4611686018427387904):scanF l (g+1) k=scanF l g (k+1):=by
 rw[scanF,if_pos h,if_pos ⟨h',h''⟩]
theorem check_any(A:Option Addr)(c:Nat)(l:List (Int×Int))(w:World)(hl:Nds w w.heap.size A l)(hw:Hid (WfN l))(hmax:(l.length:Int)≤9223372036854775807):
  Calls Tryz.prog 110 #[.slice A l.length c] w (Made2 (chk l) w):=by
 by_cases h32:32<l.length
 ·go_enter Tryz.func110,Tryz.ntmps110
  go_wp2
  go_ret2;exact made2 (by rw[chk,if_pos h32]) ψ
 by_cases h0:l.length=0
 ·have F:=List.eq_nil_of_length_eq_zero h0;subst F
  go_enter Tryz.func110,Tryz.ntmps110
  go_wp2
  go_ret2;exact made2 rfl ψ
 obtain⟨b,o,rfl,G,L⟩:=hl.at (by omega);have H:=κ L;have S:((l.length:Int)==0)=false:=beq_eq_false_iff_ne.2 (by omega);have m:Hid (chk l=scanF l l.length 0):=by show _=_;rw[chk,if_neg h32,if_neg h0]
 clear L hl h0
 go_enter Tryz.func110,Tryz.ntmps110
 go_wp2
 go_loopg [14] l.length (fun g I w'=> ∃k:Nat,k+g=l.length∧I= ι k∧Hid (scanF l g k=scanF l l.length 0)∧Hid (∀j,j<k→nP l j= -1∨inR l.length (nP l j)=true)∧Below w.heap.size w w')
 case atStart=>exact⟨0,by omega,rfl,rfl,fun j O=>absurd O (Nat.not_lt_zero j),Below.refl _ _⟩
 case round=>
  obtain⟨k,T,rfl,t,y,q⟩:=hrel;by_cases hlt:(k:Int)<(l.length:Int)
  ·obtain⟨g,rfl⟩: ∃g,gk=g+1:=⟨gk-1,by omega⟩;have Q:=(q.cell (p:=(α b (o+k*2))) G).trans (H.o k (by omega)).1;have R:=(q.cell (p:=(α b (o+k*2+1))) G).trans (H.o k (by omega)).2;have d:=q.alloc q.size (.cells (vI (nP l k) (nC l k)) 151);by_cases hP:nP l k= -1∨inR l.length (nP l k)=true
   ·by_cases hC:0≤nC l k∧nC l k≤4611686018427387904
    ·have v:=κ ((scan_go hP hC.1 hC.2).symm.trans t.o)
     have r:Hid (∀j,j<k+1→nP l j= -1∨inR l.length (nP l j)=true):=fun j O=>by
      by_cases e:j=k
      ·subst e;exact hP
      ·exact y.o j (by omega)
     obtain⟨z,C⟩:=hC;by_cases s:nP l k= -1
     ·have E:(nP l k != -1)=false:=by simp[s]
      have x:(nP l k== -1)=true:=by simp[s]
      clear s hP
      go_wp2_with fail
      go_roundg g
      case measure=>omega
      case rel=>exact⟨k+1,by omega,by go_num,v,r,d⟩
     ·have E:(nP l k != -1)=true:=by simp[s]
      have x:(nP l k== -1)=false:=by simp[s]
      have J:=hP.resolve_left s;clear s hP
      go_wp2_with (go_at_call 144;refine(has_any _ _ _ _ _).mono ?_;rintro e w' ⟨rfl,rfl⟩)
      go_roundg g
      case measure=>omega
      case rel=>exact⟨k+1,by omega,by go_num,v,r,d⟩
    ·have f:Hid (scanF l l.length 0=(1,(k:Int))):=by
      show _=_;rw[←t.o];exact scan_1 hP (by omega)
     by_cases s:nP l k= -1
     ·have E:(nP l k != -1)=false:=by simp[s]
      have x:(nP l k== -1)=true:=by simp[s]
      clear s hP;by_cases z:nC l k<0
      ·go_wp2_with fail
       go_ret2;exact made2 (m.o.trans f.o) d
      ·have C:4611686018427387904<nC l k:=by omega
       clear hC
       go_wp2_with fail
       go_ret2;exact made2 (m.o.trans f.o) d
     ·have E:(nP l k != -1)=true:=by simp[s]
      have x:(nP l k== -1)=false:=by simp[s]
      have J:=hP.resolve_left s;clear s hP;by_cases z:nC l k<0
      ·go_wp2_with (go_at_call 144;refine(has_any _ _ _ _ _).mono ?_;rintro e w' ⟨rfl,rfl⟩)
       go_ret2;exact made2 (m.o.trans f.o) d
      ·have C:4611686018427387904<nC l k:=by omega
       clear hC
       go_wp2_with (go_at_call 144;refine(has_any _ _ _ _ _).mono ?_;rintro e w' ⟨rfl,rfl⟩)
       go_ret2;exact made2 (m.o.trans f.o) d
   ·have s: ¬nP l k= -1:=fun e=>hP (.inl e)
    have E:(nP l k != -1)=true:=by simp[s]
    have x:(nP l k== -1)=false:=by simp[s]
    have J:inR l.length (nP l k)=false:=by
     cases h:inR l.length (nP l k)
     ·rfl
     ·exact absurd (.inr h) hP
    have f:Hid (scanF l l.length 0=(18,(k:Int))):=by
     show _=_;rw[←t.o];exact scan_18 E J
    clear s hP
    go_wp2_with (go_at_call 144;refine(has_any _ _ _ _ _).mono ?_;rintro e w' ⟨rfl,rfl⟩)
    go_ret2;exact made2 (m.o.trans f.o) d
  ·have f:Hid (scanF l l.length 0=climbF l l.length 0):=by
    show _=_;rw[←t.o,show gk=0 by omega];rfl
   have r:Hid (Par l):=by
    intro i P;rcases y.o i (by omega) with h|h
    ·omega
    ·have:=inR_of h;omega
   have K:=κ <| fun i P=>
    (q.cell (p:=⟨b,o+i*2,none⟩) G).trans (H.o i P).1
   go_wp2_with (go_at_call 145;refine(climb_any b o c l _ (by omega) r K).mono ?_;rintro e w' ⟨rfl,rfl⟩)
   go_ret2;exact made2 (m.o.trans f.o) q
theorem int_info:(Tryz.prog.info? 3).map (fun i=>(i.zero,i.size,i.bytes))=some (some (.int .i64 0),1,8):=by kernel_rfl
def MadeI(xs:List Int)(w:World)(e:Ending)(w':World):Prop:= ∃A c,e= .returned (.slice A xs.length c)∧Ris w' w'.heap.size A xs∧Below w.heap.size w w'
theorem madeI_mk(h:ys=xs)(hr:Ris w' w'.heap.size A xs)(hb:Below w.heap.size w w'):MadeI ys w (.returned (.slice A xs.length c)) w':=by
 subst h;exact⟨A,c,rfl,hr,hb⟩
def MadeIF(xs:List Int)(w:World)(e:Ending)(w':World):Prop:= ∃A c,e= .returned (.slice A xs.length c)∧Ris w' w'.heap.size A xs∧(∀a,A=some a→w.heap.size≤a.block)∧Below w.heap.size w w'
theorem madeIF_mk(h:ys=xs)(hr:Ris w' w'.heap.size A xs)(hf: ∀a,A=some a→w.heap.size≤a.block)(hb:Below w.heap.size w w'):MadeIF ys w (.returned (.slice A xs.length c)) w':=by
 subst h;exact⟨A,c,rfl,hr,hf,hb⟩
theorem MadeIF.made{e:Ending}(h:MadeIF xs w e w'):MadeI xs w e w':=by
 obtain⟨A,c,d,f,_,i⟩:=h;exact⟨A,c,d,f,i⟩
theorem own_fresh{base:Nat}{e:TypeId}{size m:Nat}{xs:List Value}(h:w.ownsRow base e size (.slice A m c) n xs): ∀a,A=some a→base≤a.block:=by
 rintro a rfl;rcases h.2 with⟨d,_⟩|⟨g,f,i,d,j,_⟩
 ·cases d
 ·injection d with d;injection d with d;subst d;exact j
theorem pathF_out{n:Int}(h:inR l.length n=false):pathF l g n=[]:=by
 cases g<;>simp[pathF,h]
theorem pathF_in{n:Int}(h:inR l.length n=true):pathF l (g+1) n=n :: pathF l g (nP l n.toNat):=by
 rw[pathF,if_pos h]
theorem path_fresh(A:Option Addr)(c:Nat)(l:List (Int×Int))(n:Int)(w:World)(hl:Nds w w.heap.size A l)(hw:Hid (WfN l))(hmax:(l.length:Int)≤9223372036854775807)(hn:inI n):
  Calls Tryz.prog 160 #[.slice A l.length c,.int .i64 n] w (MadeIF (pathF l 3 n) w):=by
 obtain⟨I,J,y,z,C⟩:=info_parts int_info;have K:=κ hl;clear hl
 go_enter Tryz.func160,Tryz.ntmps160
 go_wp2
 go_loopg [1,5] 3 (fun g L O w'=> ∃(m:Int) (xs:List Int) (x:Option Addr) (E:Nat),xs.length+g=3∧inI m∧L= ι m∧O= .slice x xs.length E∧Hid (xs++pathF l g m=pathF l 3 n)∧Hid (w'.ownsRow w.heap.size 3 1 (.slice x xs.length E) xs.length (ints xs))∧Below w.heap.size w w')
 case atStart=>exact⟨n,[],none,0,by simp,hn,rfl,rfl,rfl,World.ownsRow_nil _ _ _ _,Below.refl _ _⟩
 case round=>
  obtain⟨m,xs,x,E,W,X,rfl,rfl,j,h,f⟩:=hrel;by_cases q:inR l.length m=true
  ·by_cases h3:xs.length<3
   ·obtain⟨g,rfl⟩: ∃g,gk=g+1:=⟨gk-1,by omega⟩;have t:decide ((xs.length:Int)<3)=true:=by simp;omega
    obtain⟨P,Q⟩:=inR_of q;obtain⟨b,o,rfl,R,S⟩:=Nds.at K.o (by omega);have F:=(S m.toNat (by omega)).1;have G:=(hw.o m.toNat (by omega)).1
    have d:Hid ((xs++[m])++pathF l g (nP l m.toNat)=pathF l 3 n):=by
     show _=_;rw[←j.o,pathF_in q,List.append_assoc];rfl
    go_wp2_with (first
     |(at_builtin;refine wpList_app1 h f rfl _ _ _ rfl I (.int .i64 0) 8 Tryz.underlying23 J y z C rfl (by decide) rfl rfl rfl [.int .i64 m] rfl rfl (by simp[Value.oneCell']) (by unfold maxLen;omega) (by omega) τ f.size f.size ?_;intro T U Y v r H;have V:=(r.cell (p:=⟨b,o+m.toNat*2,none⟩) R).trans F)
     |(go_at_call 144;refine(has_any _ _ _ _ _).mono ?_;rintro e w' ⟨rfl,rfl⟩))
    go_roundg g
    case measure=>omega
    case rel=>exact⟨nP l m.toNat,xs++[m],T,U,by simp;omega,G,rfl,by simp,d,by rw[List.length_append,ints_snoc];exact v,r⟩
   ·have t:decide ((xs.length:Int)<3)=false:=by simp;omega
    have d:Hid (xs=pathF l 3 n):=by
     show _=_;rw[←j.o,show gk=0 by omega];simp[pathF]
    have i:Hid (Ris wr wr.heap.size x xs):=Rd.of_own h.o;have s:=κ (own_fresh h.o)
    go_wp2_with fail
    go_ret;exact madeIF_mk d.o.symm i.o s.o f
  ·have q:inR l.length m=false:=by simpa using q
   have d:Hid (xs=pathF l 3 n):=by
    show _=_;rw[←j.o,pathF_out q];simp
   have i:Hid (Ris wr wr.heap.size x xs):=Rd.of_own h.o;have s:=κ (own_fresh h.o);by_cases h3:xs.length<3
   ·have t:decide ((xs.length:Int)<3)=true:=by simp;omega
    go_wp2_with (go_at_call 144;refine(has_any _ _ _ _ _).mono ?_;rintro e w' ⟨rfl,rfl⟩)
    go_ret;exact madeIF_mk d.o.symm i.o s.o f
   ·have t:decide ((xs.length:Int)<3)=false:=by simp;omega
    go_wp2_with fail
    go_ret;exact madeIF_mk d.o.symm i.o s.o f
end Tre
namespace Ref3
open Tre
def MadeIB(xs:List Int)(b:Bool)(w:World)(e:Ending)(w':World):Prop:= ∃A c,e= .returned (.tuple #[.slice A xs.length c,.bool b])∧Ris w' w'.heap.size A xs∧Below w.heap.size w w'
variable {n:Int} {l:List (Int×Int)} {g k:Nat}
theorem madeIB_mk{xs ys:List Int}{b b':Bool}{A:Option Addr}{c:Nat}{w w':World}(h:ys=xs)(hb':b'=b)(hr:Ris w' w'.heap.size A xs)(hb:Below w.heap.size w w'):MadeIB ys b' w (.returned (.tuple #[.slice A xs.length c,.bool b])) w':=by
 subst h;subst hb';exact⟨A,c,rfl,hr,hb⟩
theorem fitF_out(h:inR l.length n=false):fitF l g n=true:=by
 cases g<;>simp[fitF,h]
theorem fitF_in(h:inR l.length n=true):fitF l (g+1) n=fitF l g (nP l n.toNat):=by
 rw[fitF,if_pos h]
theorem rclimb_any(A:Option Addr)(c:Nat)(l:List (Int×Int))(n:Int)(w:World)(hl:Hid (Nds w w.heap.size A l))(hw:Hid (WfN l))(hmax:(l.length:Int)≤9223372036854775807)(hn:inI n):
  Calls Tryz.prog 78 #[.slice A l.length c,.int .i64 n] w (MadeIB (pathF l 3 n) (fitF l 3 n) w):=by
 obtain⟨L,O,y,z,C⟩:=info_parts int_info
 go_enter Tryz.func78,Tryz.ntmps78
 go_wp2
 go_loopg [1,6] 3 (fun g P Q I=> ∃(m:Int) (h:List Int) (v:Option Addr) (E:Nat),h.length+g=3∧inI m∧P= ι m∧Q= .slice v h.length E∧Hid (h++pathF l g m=pathF l 3 n)∧Hid (fitF l g m=fitF l 3 n)∧Hid (I.ownsRow w.heap.size 3 1 (.slice v h.length E) h.length (ints h))∧Below w.heap.size w I)
 case atStart=>exact⟨n,[],none,0,by simp,hn,rfl,rfl,rfl,rfl,World.ownsRow_nil _ _ _ _,Below.refl _ _⟩
 case round=>
  obtain⟨m,h,v,E,Z,hm,rfl,rfl,i,j,s,f⟩:=hrel;have q:Hid (Ris wr wr.heap.size v h):=Rd.of_own s.o;by_cases a:inR l.length m=true
  ·obtain⟨R,S⟩:=inR_of a;obtain⟨b,o,rfl,T,x⟩:=Nds.at hl.o (by omega);by_cases h3:h.length<3
   ·obtain⟨g,rfl⟩: ∃g,gk=g+1:=⟨gk-1,by omega⟩;have F:decide (3≤(h.length:Int))=false:=by simp;omega
    have G:=(x m.toNat (by omega)).1;have H:=(hw.o m.toNat (by omega)).1
    have d:Hid ((h++[m])++pathF l g (nP l m.toNat)=pathF l 3 n):=by
     show _=_;rw[←i.o,pathF_in a,List.append_assoc];rfl
    have e:Hid (fitF l g (nP l m.toNat)=fitF l 3 n):=by
     show _=_;rw[←j.o,fitF_in a]
    have HH:=κ x;clear x a
    go_wp2_with (first
     |(at_builtin;refine wpList_app1 s f rfl _ _ _ rfl L (.int .i64 0) 8 Tryz.underlying23 O y z C rfl (by decide) rfl rfl rfl [.int .i64 m] rfl rfl (by simp[Value.oneCell']) (by unfold maxLen;omega) (by omega) τ f.size f.size ?_;intro U V W t r J;have X:W.cell? ⟨b,o+m.toNat*2,none⟩=some (.int .i64 (nP l m.toNat)):=(r.cell (p:=⟨b,o+m.toNat*2,none⟩) T).trans G))
    go_roundg g
    case measure=>omega
    case rel=>exact⟨nP l m.toNat,h++[m],U,V,by simp;omega,H,rfl,by simp,d,e,by rw[List.length_append,ints_snoc];exact t,r⟩
   ·have F:decide (3≤(h.length:Int))=true:=by simp;omega
    have d:Hid (pathF l 3 n=h):=by
     show _=_;rw[←i.o,show gk=0 by omega];simp[pathF]
    have e:Hid (fitF l 3 n=false):=by
     show _=_;rw[←j.o,show gk=0 by omega];simp[fitF,a]
    clear x a
    go_wp2_with fail
    go_ret2;exact madeIB_mk d.o e.o q.o f
  ·have a:inR l.length m=false:=by simpa using a
   have d:Hid (pathF l 3 n=h):=by
    show _=_;rw[←i.o,pathF_out a];simp
   have e:Hid (fitF l 3 n=true):=by
    show _=_;rw[←j.o,fitF_out a]
   have Y:m<0∨l.length≤m:=by
    by_cases h0:m<0
    ·exact .inl h0
    ·right;by_cases K:m<l.length
     ·have:=inR_t (n:=l.length) (k:=m) (by omega) K;rw[this]at a;cases a
     ·omega
   clear a;by_cases h0:m<0
   ·go_wp2_with fail
    go_ret2;exact madeIB_mk d.o e.o q.o f
   ·have K:l.length≤m:=by omega
    have h2:0≤m:=by omega
    clear Y
    go_wp2_with fail
    go_ret2;exact madeIB_mk d.o e.o q.o f
theorem rpath_any(A:Option Addr)(c:Nat)(l:List (Int×Int))(n:Int)(w:World)(hl:Hid (Nds w w.heap.size A l))(hw:Hid (WfN l))(hmax:(l.length:Int)≤9223372036854775807)(hn:inI n):
  Calls Tryz.prog 46 #[.slice A l.length c,.int .i64 n] w (MadeI (pathF l 3 n) w):=by
 go_enter Tryz.func46,Tryz.ntmps46
 go_wp2_with (go_at_call 78;refine(rclimb_any _ _ _ _ _ hl hw hmax hn).mono ?_;rintro e f ⟨h,i,rfl,a,b⟩;have d:=κ a;clear a)
 go_ret;exact madeI_mk rfl d.o b
theorem climbF_go(h:top l 3 k=true):climbF l (g+1) k=climbF l g (k+1):=by rw[climbF,if_pos h]
end Ref3
namespace Law3
open Tre Ref3
variable {xs ys:List Int} {w w':World}
theorem node_info:(Tryz.prog.info? 151).map (fun i=>(i.zero,i.size,i.bytes))=some (some (.agg #[.int .i64 0,.int .i64 0]),2,16):=by kernel_rfl
theorem rnode_info:(Tryz.prog.info? 133).map (fun i=>(i.zero,i.size,i.bytes))=some (some (.agg #[.int .i64 0,.int .i64 0]),2,16):=by kernel_rfl
def MadeNds(l:List (Int×Int))(w:World)(e:Ending)(w':World):Prop:= ∃A c,e= .returned (.slice A l.length c)∧Nds w' w'.heap.size A l∧Below w.heap.size w w'
theorem madeNds_mk{xs ys:List (Int×Int)}{A:Option Addr}{c:Nat}(h:ys=xs)(hr:Nds w' w'.heap.size A xs)(hb:Below w.heap.size w w'):MadeNds ys w (.returned (.slice A xs.length c)) w':=by
 subst h;exact⟨A,c,rfl,hr,hb⟩
theorem take_snoc{l:List (Int×Int)}{k:Nat}(h:k<l.length):l.take (k+1)=l.take k++[(nP l k,nC l k)]:=by
 have e:l[k]=(nP l k,nC l k):=by simp[nP,nC,h]
 rw[List.take_succ_eq_append_getElem h,e]
theorem to_any(A:Option Addr)(c:Nat)(l:List (Int×Int))(w:World)(hl:Hid (Nds w w.heap.size A l))(hw:Hid (WfN l))(hmax:(l.length:Int)≤1000000):
  Calls Tryz.prog 29 #[.slice A l.length c] w (MadeNds l w):=by
 obtain⟨x,y,m,n,q⟩:=info_parts node_info
 go_enter Tryz.func29,Tryz.ntmps29
 go_wp2
 go_loopg [3,4] l.length (fun g z C w'=> ∃(k:Nat) (j:Option Addr) (r:Nat),k+g=l.length∧C= ι k∧z= .slice j k r∧Hid (w'.ownsRow w.heap.size 151 2 (.slice j k r) k (nds (l.take k)))∧Below w.heap.size w w')
 case atStart=>exact⟨0,none,0,by omega,rfl,rfl,World.ownsRow_nil _ _ _ _,Below.refl _ _⟩
 case round=>
  obtain⟨k,j,r,I,rfl,rfl,d,a⟩:=hrel;by_cases hlt:(k:Int)<(l.length:Int)
  ·obtain⟨g,rfl⟩: ∃g,gk=g+1:=⟨gk-1,by omega⟩;obtain⟨b,o,rfl,t,s⟩:=Nds.at hl.o (by omega);have E:wr.cell? (α b (o+k*2))=some (ι (nP l k)):=(a.cell (p:=(α b (o+k*2))) t).trans (s k (by omega)).1;have F:wr.cell? (α b (o+k*2+1))=some (ι (nC l k)):=(a.cell (p:=(α b (o+k*2+1))) t).trans (s k (by omega)).2;clear s
   go_wp2_with fail
   have h:Hid (nds (l.take (k+1))=nds (l.take k)++[ι (nP l k),ι (nC l k)]):=by show _=_;rw[take_snoc (by omega),nds_snoc]
   go_region_law ((refine step_app1 (own_drew d) (below_drew a) rfl _ _ _ rfl x (.agg #[.int .i64 0,.int .i64 0]) 16 Tryz.underlying40 y m n q rfl (by decide) rfl rfl rfl [.int .i64 (nP l k),.int .i64 (nC l k)] rfl rfl (by simp[Value.oneCell']) (by unfold maxLen;omega) (by omega) τ a.size a.size ?_;intro G H J e f v))
   all_goals
    go_wp2_with fail
    go_roundg g
    case measure=>omega
    case rel=>exact⟨k+1,G,H,by omega,by go_num,rfl,by rw[h.o];exact e,f⟩
  ·obtain rfl:k=l.length:=by omega
   have i:Hid (Nds wr wr.heap.size j l):=by
    have:=Rd.of_own d.o;rwa[List.take_length]at this
   go_wp2_with fail
   go_ret;exact madeNds_mk rfl i.o a
def MadeB(b:Bool)(w:World)(e:Ending)(w':World):Prop:=e= .returned (.bool b)∧Below w.heap.size w w'
theorem madeB_mk{b b':Bool}(h:b'=b)(hb:Below w.heap.size w w'):MadeB b' w (.returned (.bool b)) w':=by subst h;exact⟨rfl,hb⟩
end Law3
end Go.Proofs.YtcccdikhfgpamaaGreat
