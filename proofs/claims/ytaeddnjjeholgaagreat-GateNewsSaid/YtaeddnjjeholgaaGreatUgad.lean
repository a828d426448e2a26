/- Texts side by side. -/
import Derived.WalkSpells
import Derived.Lib.LazyBuf
import Derived.Test.YtaeddnjjeholgaaGreatUgab
set_option linter.unusedVariables false
set_option linter.unusedSimpArgs false
set_option maxRecDepth 100000
set_option maxHeartbeats 16000000
namespace Go.Proofs.YtaeddnjjeholgaaGreat
open Go.ChangeShapes Go.WideShapes Go.ChangeAt Go.RowKit Mem Tre
namespace Ref3
open Kap
def MadeIB(xs:List Int)(b:Bool)(w:World)(e:Ending)(w':World):Prop:= ∃A c,e= .returned (.tuple #[.slice A xs.length c,.bool b])∧Ris w' w'.heap.size A xs∧Below w.heap.size w w'
variable {n:Int} {l:List (Int×Int)} {g k:Nat}
theorem madeIB_mk{xs ys:List Int}{b b':Bool}{A:Option Addr}{c:Nat}{w w':World}(h:ys=xs)(hb':b'=b)(hr:Ris w' w'.heap.size A xs)(hb:Below w.heap.size w w'):MadeIB ys b' w (.returned (.tuple #[.slice A xs.length c,.bool b])) w':=by
 subst h;subst hb';exact⟨A,c,rfl,hr,hb⟩
theorem fitF_out(h:inR l.length n=false):fitF l g n=true:=by
 cases g<;>simp[fitF,h]
theorem fitF_in(h:inR l.length n=true):fitF l (g+1) n=fitF l g (nP l n.toNat):=by
 rw[fitF,if_pos h]
theorem rclimb_any(A:Option Addr)(c:Nat)(l:List (Int×Int))(n:Int)(w:World)(hl:Hid (Nds w w.heap.size A l))(hw:Hid (WfN l))(hmax:(l.length:Int)≤9223372036854775807)(hn:inI n):
  Calls Tryz.prog 72 #[.slice A l.length c,.int .i64 n] w (MadeIB (pathF l 3 n) (fitF l 3 n) w):=by
 obtain⟨i0,hi,hz0,hz1,hz2⟩:=info_parts int_info
 go_enter Tryz.func72,Tryz.ntmps72
 go_wp2
 go_loopg [1,6] 3 (fun g s1 s6 w'=> ∃(m:Int) (xs:List Int) (A':Option Addr) (c':Nat),xs.length+g=3∧inI m∧s1= ι m∧s6= .slice A' xs.length c'∧Hid (xs++pathF l g m=pathF l 3 n)∧Hid (fitF l g m=fitF l 3 n)∧Hid (w'.ownsRow w.heap.size 3 1 (.slice A' xs.length c') xs.length (ints xs))∧Below w.heap.size w w')
 case atStart=>exact⟨n,[],none,0,by simp,hn,rfl,rfl,rfl,rfl,World.ownsRow_nil _ _ _ _,Below.refl _ _⟩
 case round=>
  obtain⟨m,xs,A',c',hg,hm,rfl,rfl,hres,hfit,hown,hbel⟩:=hrel;have hris:Hid (Ris wr wr.heap.size A' xs):=Rd.of_own hown.out;by_cases hin:inR l.length m=true
  ·obtain⟨hr0,hr1⟩:=inR_of hin;obtain⟨b,o,rfl,hb,hc⟩:=Nds.at hl.out (by omega);by_cases h3:xs.length<3
   ·obtain⟨g,rfl⟩: ∃g,gk=g+1:=⟨gk-1,by omega⟩;have hx3:decide (3≤(xs.length:Int))=false:=by simp;omega
    have hc0:=(hc m.toNat (by omega)).1;have hp1:=(hw.out m.toNat (by omega)).1
    have hres1:Hid ((xs++[m])++pathF l g (nP l m.toNat)=pathF l 3 n):=by
     show _=_;rw[←hres.out,pathF_in hin,List.append_assoc];rfl
    have hfit1:Hid (fitF l g (nP l m.toNat)=fitF l 3 n):=by
     show _=_;rw[←hfit.out,fitF_in hin]
    have HH:=κ hc;clear hc hin
    go_wp2_with (first
     |(at_builtin;refine wpList_app1 hown hbel rfl _ _ _ rfl i0 (.int .i64 0) 8 Tryz.underlying23 hi hz0 hz1 hz2 rfl (by decide) rfl rfl rfl [.int .i64 m] rfl rfl (by simp[Value.oneCell']) (by unfold maxLen;omega) (by omega) τ hbel.size hbel.size ?_;intro A1 c1 w1 hown1 hbel1 hsz1;have hc1:w1.cell? ⟨b,o+m.toNat*2,none⟩=some (.int .i64 (nP l m.toNat)):=(hbel1.cell (p:=⟨b,o+m.toNat*2,none⟩) hb).trans hc0))
    go_roundg g
    case measure=>omega
    case rel=>exact⟨nP l m.toNat,xs++[m],A1,c1,by simp;omega,hp1,rfl,by simp,hres1,hfit1,by rw[List.length_append,ints_snoc];exact hown1,hbel1⟩
   ·have hx3:decide (3≤(xs.length:Int))=true:=by simp;omega
    have hres1:Hid (pathF l 3 n=xs):=by
     show _=_;rw[←hres.out,show gk=0 by omega];simp[pathF]
    have hfit1:Hid (fitF l 3 n=false):=by
     show _=_;rw[←hfit.out,show gk=0 by omega];simp[fitF,hin]
    clear hc hin
    go_wp2_with fail
    go_ret2;exact madeIB_mk hres1.out hfit1.out hris.out hbel
  ·have hin:inR l.length m=false:=by simpa using hin
   have hres1:Hid (pathF l 3 n=xs):=by
    show _=_;rw[←hres.out,pathF_out hin];simp
   have hfit1:Hid (fitF l 3 n=true):=by
    show _=_;rw[←hfit.out,fitF_out hin]
   have hq:m<0∨l.length≤m:=by
    by_cases h0:m<0
    ·exact .inl h0
    ·right;by_cases h1:m<l.length
     ·have:=inR_t (n:=l.length) (k:=m) (by omega) h1;rw[this]at hin;cases hin
     ·omega
   clear hin;by_cases h0:m<0
   ·go_wp2_with fail
    go_ret2;exact madeIB_mk hres1.out hfit1.out hris.out hbel
   ·have h1:l.length≤m:=by omega
    have h2:0≤m:=by omega
    clear hq
    go_wp2_with fail
    go_ret2;exact madeIB_mk hres1.out hfit1.out hris.out hbel
theorem rpath_any(A:Option Addr)(c:Nat)(l:List (Int×Int))(n:Int)(w:World)(hl:Hid (Nds w w.heap.size A l))(hw:Hid (WfN l))(hmax:(l.length:Int)≤9223372036854775807)(hn:inI n):
  Calls Tryz.prog 89 #[.slice A l.length c,.int .i64 n] w (MadeI (pathF l 3 n) w):=by
 go_enter Tryz.func89,Tryz.ntmps89
 go_wp2_with (go_at_call 72;refine(rclimb_any _ _ _ _ _ hl hw hmax hn).mono ?_;rintro e w1 ⟨A',c',rfl,hr,hb⟩;have HR:=κ hr;clear hr)
 go_ret;exact madeI_mk rfl HR.out hb
theorem climbF_go(h:top l 3 k=true):climbF l (g+1) k=climbF l g (k+1):=by rw[climbF,if_pos h]
theorem climbF_no(h:top l 3 k=false):climbF l (g+1) k=(16,(k:Int)):=by rw[climbF,h];rfl
end Ref3
namespace Law3
open Kap Ref3
variable {xs ys:List Int} {w w':World}
theorem node_info:(Tryz.prog.info? 102).map (fun i=>(i.zero,i.size,i.bytes))=some (some (.agg #[.int .i64 0,.int .i64 0]),2,16):=by kernel_rfl
theorem rnode_info:(Tryz.prog.info? 71).map (fun i=>(i.zero,i.size,i.bytes))=some (some (.agg #[.int .i64 0,.int .i64 0]),2,16):=by kernel_rfl
def MadeNds(l:List (Int×Int))(w:World)(e:Ending)(w':World):Prop:= ∃A c,e= .returned (.slice A l.length c)∧Nds w' w'.heap.size A l∧Below w.heap.size w w'
theorem madeNds_mk{xs ys:List (Int×Int)}{A:Option Addr}{c:Nat}(h:ys=xs)(hr:Nds w' w'.heap.size A xs)(hb:Below w.heap.size w w'):MadeNds ys w (.returned (.slice A xs.length c)) w':=by
 subst h;exact⟨A,c,rfl,hr,hb⟩
theorem take_snoc{l:List (Int×Int)}{k:Nat}(h:k<l.length):l.take (k+1)=l.take k++[(nP l k,nC l k)]:=by
 have e:l[k]=(nP l k,nC l k):=by simp[nP,nC,h]
 rw[List.take_succ_eq_append_getElem h,e]
theorem to_any(A:Option Addr)(c:Nat)(l:List (Int×Int))(w:World)(hl:Hid (Nds w w.heap.size A l))(hw:Hid (WfN l))(hmax:(l.length:Int)≤1000000):
  Calls Tryz.prog 41 #[.slice A l.length c] w (MadeNds l w):=by
 obtain⟨i0,hi,hz0,hz1,hz2⟩:=info_parts node_info
 go_enter Tryz.func41,Tryz.ntmps41
 go_wp2
 go_loopg [3,4] l.length (fun g s3 s4 w'=> ∃(k:Nat) (A':Option Addr) (c':Nat),k+g=l.length∧s4= ι k∧s3= .slice A' k c'∧Hid (w'.ownsRow w.heap.size 102 2 (.slice A' k c') k (nds (l.take k)))∧Below w.heap.size w w')
 case atStart=>exact⟨0,none,0,by omega,rfl,rfl,World.ownsRow_nil _ _ _ _,Below.refl _ _⟩
 case round=>
  obtain⟨k,A',c',hk,rfl,rfl,hown,hbel⟩:=hrel;by_cases hlt:(k:Int)<(l.length:Int)
  ·obtain⟨g,rfl⟩: ∃g,gk=g+1:=⟨gk-1,by omega⟩;obtain⟨b,o,rfl,hb,hc⟩:=Nds.at hl.out (by omega);have hc0:wr.cell? (α b (o+k*2))=some (ι (nP l k)):=(hbel.cell (p:=(α b (o+k*2))) hb).trans (hc k (by omega)).1;have hc1:wr.cell? (α b (o+k*2+1))=some (ι (nC l k)):=(hbel.cell (p:=(α b (o+k*2+1))) hb).trans (hc k (by omega)).2;clear hc
   go_wp2_with fail
   have hpre:Hid (nds (l.take (k+1))=nds (l.take k)++[ι (nP l k),ι (nC l k)]):=by show _=_;rw[take_snoc (by omega),nds_snoc]
   go_region_law ((refine step_app1 (own_drew hown) (below_drew hbel) rfl _ _ _ rfl i0 (.agg #[.int .i64 0,.int .i64 0]) 16 Tryz.underlying40 hi hz0 hz1 hz2 rfl (by decide) rfl rfl rfl [.int .i64 (nP l k),.int .i64 (nC l k)] rfl rfl (by simp[Value.oneCell']) (by unfold maxLen;omega) (by omega) τ hbel.size hbel.size ?_;intro A1 c1 w1 hown1 hbel1 hsz1))
   all_goals
    go_wp2_with fail
    go_roundg g
    case measure=>omega
    case rel=>exact⟨k+1,A1,c1,by omega,by go_num,rfl,by rw[hpre.out];exact hown1,hbel1⟩
  ·obtain rfl:k=l.length:=by omega
   have hris:Hid (Nds wr wr.heap.size A' l):=by
    have:=Rd.of_own hown.out;rwa[List.take_length]at this
   go_wp2_with fail
   go_ret;exact madeNds_mk rfl hris.out hbel
def MadeB(b:Bool)(w:World)(e:Ending)(w':World):Prop:=e= .returned (.bool b)∧Below w.heap.size w w'
theorem madeB_mk{b b':Bool}(h:b'=b)(hb:Below w.heap.size w w'):MadeB b' w (.returned (.bool b)) w':=by subst h;exact⟨rfl,hb⟩
end Law3
namespace Crd
open Kap Ref3 Law3
theorem i64_info:(Tryz.prog.info? 2).map (fun i=>(i.zero,i.size,i.bytes))=some (some (.int .i64 0),1,8):=by kernel_rfl
def OwnN(base:Nat)(w:World)(A:Option Addr)(c:Nat)(l:List (Int×Int)):Prop:=w.ownsRow base 102 2 (.slice A l.length c) l.length (nds l)
def OwnI(base:Nat)(w:World)(A:Option Addr)(c:Nat)(u:List Int):Prop:=w.ownsRow base 2 1 (.slice A u.length c) u.length (ints u)
def MadeOwnN(l:List (Int×Int))(w:World)(e:Ending)(w':World):Prop:= ∃A c,e= .returned (.slice A l.length c)∧OwnN w.heap.size w' A c l∧Below w.heap.size w w'
def MadeOwnI(u:List Int)(w:World)(e:Ending)(w':World):Prop:= ∃A c,e= .returned (.slice A u.length c)∧OwnI w.heap.size w' A c u∧Below w.heap.size w w'
theorem cloneN_any(A:Option Addr)(c:Nat)(l:List (Int×Int))(w:World)(hl:Hid (Nds w w.heap.size A l))(hmax:(l.length:Int)≤1000000):
  Calls Tryz.prog 67 #[.slice A l.length c] w (MadeOwnN l w):=by
 obtain⟨i0,hi,hz0,hz1,hz2⟩:=info_parts node_info;have hq:=fun(W:World) (n c:Nat)=>Lib.run_eql_slice_nil (P:=Tryz.prog) W 40 102 A n c 0 0 Tryz.underlying40
 cases A with
 |none=>
  have hl0:l=[]:=by
   rcases hl.out with h|⟨b,o,h,_⟩
   ·have:=nds_len l;rw[h]at this;simp at this;exact List.eq_nil_of_length_eq_zero (by omega)
   ·cases h
  subst hl0
  go_enter Tryz.func67,Tryz.ntmps67
  go_wp2_with fail
  go_ret;exact⟨none,0,rfl,World.ownsRow_nil _ _ _ _,Below.refl _ _⟩
 |some ad=>
  have hl1:Hid (Rd (w.alloc (.cells #[] 102)) w.heap.size (some ad) (nds l)):=Rd.below hl.out (ψ.alloc τ _);have how:Hid ((w.alloc (.cells #[] 102)).ownsRow w.heap.size 102 2 (.slice (some (α w.heap.size 0)) 0 0) 0 []):=own_empty (Blk.fresh w _ _) τ;have hb0:Below w.heap.size w (w.alloc (.cells #[] 102)):=β w (.cells #[] 102)
  go_enter Tryz.func67,Tryz.ntmps67
  go_wp2_with (at_builtin;go_loud (refine wpList_appR (nm:=l.length) how hb0 hl1 (by simp) rfl _ _ _ rfl i0 (.agg #[.int .i64 0,.int .i64 0]) 16 Tryz.underlying40 hi hz0 hz1 hz2 rfl (by decide) rfl rfl (nds_len l) (nds_one l) (by unfold maxLen;omega) (by omega) τ (by simp) (by simp) ?_);intro A1 c1 w1 hown1 hbel1 hsz1)
  go_ret;exact⟨A1,c1,rfl,hown1,hbel1⟩
theorem cloneI_any(A:Option Addr)(c:Nat)(l:List Int)(w:World)(hl:Hid (Ris w w.heap.size A l))(hmax:(l.length:Int)≤1000000):
  Calls Tryz.prog 88 #[.slice A l.length c] w (MadeOwnI l w):=by
 obtain⟨i0,hi,hz0,hz1,hz2⟩:=info_parts i64_info;have hq:=fun(W:World) (n c:Nat)=>Lib.run_eql_slice_nil (P:=Tryz.prog) W 144 2 A n c 0 0 Tryz.underlying144
 cases A with
 |none=>
  have hl0:l=[]:=by
   rcases hl.out with h|⟨b,o,h,_⟩
   ·have:=ints_len l;rw[h]at this;simp at this;exact List.eq_nil_of_length_eq_zero (by omega)
   ·cases h
  subst hl0
  go_enter Tryz.func88,Tryz.ntmps88
  go_wp2_with fail
  go_ret;exact⟨none,0,rfl,World.ownsRow_nil _ _ _ _,Below.refl _ _⟩
 |some ad=>
  have hl1:Hid (Rd (w.alloc (.cells #[] 2)) w.heap.size (some ad) (ints l)):=Rd.below hl.out (ψ.alloc τ _);have how:Hid ((w.alloc (.cells #[] 2)).ownsRow w.heap.size 2 1 (.slice (some (α w.heap.size 0)) 0 0) 0 []):=own_empty (Blk.fresh w _ _) τ;have hb0:Below w.heap.size w (w.alloc (.cells #[] 2)):=β w (.cells #[] 2)
  go_enter Tryz.func88,Tryz.ntmps88
  go_wp2_with (at_builtin;go_loud (refine wpList_appR (nm:=l.length) how hb0 hl1 (by simp) rfl _ _ _ rfl i0 (.int .i64 0) 8 Tryz.underlying144 hi hz0 hz1 hz2 rfl (by decide) rfl rfl (by rw[ints_len];omega) (ints_one l) (by unfold maxLen;omega) (by omega) τ (by simp) (by simp) ?_);intro A1 c1 w1 hown1 hbel1 hsz1)
  go_ret;exact⟨A1,c1,rfl,hown1,hbel1⟩
end Crd
namespace CrdB
open Kap Abv Ref3 Law3 Crd
def MadeOwnSt(l:List (Int×Int))(u:List Int)(w:World)(e:Ending)(w':World):Prop:=
 ∃A c A' c',e= .returned (.agg #[.slice A l.length c,.slice A' u.length c'])∧OwnN w.heap.size w' A c l∧OwnI w.heap.size w' A' c' u∧Below w.heap.size w w'
variable {w:World}
theorem below_step{a b c:World}(h:Below a.heap.size a b)(k:Below b.heap.size b c):Below a.heap.size a c:=h.trans (k.mono h.size)
theorem own_mono{base base':Nat}{e:TypeId}{size n:Nat}{v:Value}{xs:List Value}(h:w.ownsRow base e size v n xs)(hb:base'≤base):w.ownsRow base' e size v n xs:=by
 refine⟨h.1,?_⟩;rcases h.2 with h2|⟨g,cap,cur,hv,hg,r⟩
 ·exact .inl h2
 ·exact .inr ⟨g,cap,cur,hv,by omega,r⟩
theorem blk_set{g:Nat}{te:TypeId}{cs:Array Value}(h:Blk w g te cs)(i:Nat)(u:Value):Blk (w.setCell ⟨g,i,none⟩ u) g te (cs.setIfInBounds i u):=by
 unfold Blk at h ⊢;simp[World.setCell,Array.getElem?_modify,h]
theorem own_any(A A':Option Addr)(c c':Nat)(l:List (Int×Int))(u:List Int)(w:World)(hl:Hid (Nds w w.heap.size A l))(hu:Hid (Ris w w.heap.size A' u))(hmax:(l.length:Int)≤1000000)(hmay:(u.length:Int)≤1000000):
  Calls Tryz.prog 162 #[.agg #[.slice A l.length c,.slice A' u.length c']] w (MadeOwnSt l u w):=by
 have H1:Hid (∀W,Below w.heap.size w W→Nds W W.heap.size A l):=fun W hb=>Rd.below' hl.out hb hb.size
 have H2:Hid (∀W,Below w.heap.size w W→Ris W W.heap.size A' u):=fun W hb=>Rd.below' hu.out hb hb.size
 have b0:Below w.heap.size w (((w.alloc (.cells (vS A l.length c A' u.length c') 194)).alloc (.cells (vS none 0 0 none 0 0) 194)).drew):=((ψ.alloc τ _).alloc (by simp) _).drew;have k1:Blk (((w.alloc (.cells (vS A l.length c A' u.length c') 194)).alloc (.cells (vS none 0 0 none 0 0) 194)).drew) w.heap.size 194 (vS A l.length c A' u.length c'):=(Blk.fresh w _ _).alloc _
 have k2:Blk (((w.alloc (.cells (vS A l.length c A' u.length c') 194)).alloc (.cells (vS none 0 0 none 0 0) 194)).drew) (w.heap.size+1) 194 (vS none 0 0 none 0 0):=by
  have:=Blk.fresh (w.alloc (.cells (vS A l.length c A' u.length c') 194)) 194 (vS none 0 0 none 0 0);simp only[World.size_alloc]at this;exact this
 have f0:=χ (k1.cell 0);have f1:=χ (k1.cell 1);have K1:=κ k1;have K2:=κ k2;clear k1 k2
 go_enter Tryz.func162,Tryz.ntmps162
 go_wp2_with fail
 go_region_held3 (fun w'=>w'.cell? ⟨w.heap.size,0,none⟩=some (.slice A l.length c)∧w'.cell? ⟨w.heap.size,1,none⟩=some (.slice A' u.length c'))
  (first|go_keep|(exact⟨q1,p1⟩)|(exact⟨q2,p2⟩))
  (first
   |(go_at_call 67;refine(cloneN_any _ _ l _ (H1.out _ (by assumption)) hmax).mono ?_;rintro e w1 ⟨A1,c1,rfl,ho1,hb1⟩;have b1:=below_step (by assumption) hb1;have q1:w1.cell? ⟨w.heap.size,0,none⟩=some (.slice A l.length c):=cell_later hb1 (by assumption);have p1:=cell_later hb1 (by assumption);have k1:=κ (Blk.below' (Hid.out (by assumption)) hb1);have r1:=χ (k1.out.cell 0);have s1:=χ (k1.out.cell 1);have y1:=k1.out.thaw 0;have z1:=k1.out.thaw 1)
   |(go_at_call 88;refine(cloneI_any _ _ u _ (H2.out _ (by assumption)) hmay).mono ?_;rintro e w2 ⟨A2,c2,rfl,ho2,hb2⟩;have b2:=below_step (by assumption) hb2;have q2:w2.cell? ⟨w.heap.size,0,none⟩=some (.slice A l.length c):=cell_later hb2 (by assumption);have p2:w2.cell? ⟨w.heap.size,1,none⟩=some (.slice A' u.length c'):=cell_later hb2 (by assumption);have k2:=κ (Blk.below' (Hid.out (by assumption)) hb2);have r2:=χ (k2.out.cell 0);have s2:=χ (k2.out.cell 1);have y2:=k2.out.thaw 0;have z2:=k2.out.thaw 1))
 ·have o1:(w2.setCell (α (w.heap.size+1) 0) (.slice A1 l.length c1)).setCell (α (w.heap.size+1) 1) (.slice A2 u.length c2) |>.ownsRow w.heap.size 102 2 (.slice A1 l.length c1) l.length (nds l):=
   own_mono (ownsRow_setCell_below (ownsRow_setCell_below (own_mono (base':=w.heap.size+2) (own_below ho1 hb2).out (by simp[World.drew])) (by simp) _) (by simp) _) (by omega)
  have o2:(w2.setCell (α (w.heap.size+1) 0) (.slice A1 l.length c1)).setCell (α (w.heap.size+1) 1) (.slice A2 u.length c2) |>.ownsRow w.heap.size 2 1 (.slice A2 u.length c2) u.length (ints u):=
   own_mono (ownsRow_setCell_below (ownsRow_setCell_below (own_mono (base':=w.heap.size+2) ho2 (by have:=hb1.size;simp[World.drew]at this;omega)) (by simp) _) (by simp) _) (by omega)
  have b3:Below w.heap.size w ((w2.setCell (α (w.heap.size+1) 0) (.slice A1 l.length c1)).setCell (α (w.heap.size+1) 1) (.slice A2 u.length c2)):=(b2.setCell (by simp) _).setCell (by simp) _;have HO1:=κ o1;have HO2:=κ o2;clear o1 o2 ho1 ho2
  go_wp2_with fail
  have kf:=blk_set (blk_set k2.out 0 (.slice A1 l.length c1)) 1 (.slice A2 u.length c2);have g0:=kf.cell 0;have g1:=kf.cell 1;simp at g0 g1;exact bodyPost_ret (v:= .agg #[.slice A1 l.length c1,.slice A2 u.length c2]) (by simp[results,Tryz.results162,go_sem,g0,g1]) rfl ⟨A1,c1,A2,c2,rfl,HO1.out,HO2.out,b3⟩
end CrdB
namespace Fix3
open Kap Abv Ref3 Law3
def capF(c:Int):Int:=(c%18446744073709551616)%4611686018427387905
def fixP(l out:List (Int×Int))(k:Nat):Int:=
 if 0<k∧0≤nP l k then (if 3≤(pathF out 3 (nP l k%k)).length then-1 else nP l k%k) else-1
def fixK(l:List (Int×Int)):Nat→List (Int×Int)
 |0=>[]
 |k+1=>fixK l k++[(fixP l (fixK l k) k,capF (nC l k))]
def fixF(l:List (Int×Int)):List (Int×Int):=if l.length=0 then [(-1,1000)] else fixK l (min l.length 10)
variable {l:List (Int×Int)} {i:Nat}
theorem fixK_len(l:List (Int×Int))(k:Nat):(fixK l k).length=k:=by
 induction k with
 |zero=>rfl
 |succ k ih=>rw[fixK,List.length_append,ih];rfl
theorem capF_b(c:Int):0≤capF c∧capF c≤4611686018427387904:=by unfold capF;omega
def Okt(l:List (Int×Int)):Prop:= ∀i,i<l.length→ -1≤nP l i∧nP l i<i∧0≤nC l i∧nC l i≤4611686018427387904∧top l 3 i=true
theorem nP_snoc_lt{x:Int×Int}(h:i<l.length):nP (l++[x]) i=nP l i:=by
 simp[nP,List.getElem?_append_left h]
theorem nC_snoc_lt{x:Int×Int}(h:i<l.length):nC (l++[x]) i=nC l i:=by
 simp[nC,List.getElem?_append_left h]
theorem nP_snoc_eq{x:Int×Int}:nP (l++[x]) l.length=x.1:=by simp[nP]
theorem nC_snoc_eq{x:Int×Int}:nC (l++[x]) l.length=x.2:=by simp[nC]
theorem top_snoc{x:Int×Int}(h:Okt l): ∀(d a:Nat),a<l.length→top (l++[x]) d a=top l d a
 |0,_,_=>rfl
 |d+1,a,ha=>by
  have hb:=h a ha
  by_cases e:nP l a= -1
  ·rw[top_m1 e,top_m1 (by rw[nP_snoc_lt ha];exact e)]
  ·have e':(nP l a== -1)=false:=by simp[e]
   rw[top_up e',top_up (by rw[nP_snoc_lt ha];exact e'),nP_snoc_lt ha]
   exact top_snoc h d _ (by omega)
theorem top_short(h:Okt l){a:Nat}(ha:a<l.length)(hp:(pathF l 3 a).length<3):top l 2 a=true:=by
 have hb:=h a ha;rw[pathF_in (inR_t (by omega) (by omega)),Int.toNat_natCast]at hp;by_cases e:nP l a= -1
 ·exact top_m1 e
 ·have e':(nP l a== -1)=false:=by simp[e]
  have hb2:=h (nP l a).toNat (by omega);rw[top_up e'];rw[pathF_in (inR_t (by omega) (by omega))]at hp;by_cases e2:nP l (nP l a).toNat= -1
  ·exact top_m1 e2
  ·rw[pathF_in (inR_t (by omega) (by omega))]at hp;simp at hp;omega
theorem okt_snoc{p c:Int}(h:Okt l)(hc:0≤c∧c≤4611686018427387904)(hp:p= -1∨(0≤p∧p<l.length∧(pathF l 3 p).length<3)):Okt (l++[(p,c)]):=by
 intro i hi;simp at hi;by_cases e:i<l.length
 ·have:=h i e;rw[nP_snoc_lt e,nC_snoc_lt e,top_snoc h 3 i e];exact this
 ·obtain rfl:i=l.length:=by omega
  rw[nP_snoc_eq,nC_snoc_eq];refine⟨by simp;omega,by simp;omega,hc.1,hc.2,?_⟩;rcases hp with hp|⟨h0,h1,h2⟩
  ·exact top_m1 (by rw[nP_snoc_eq];exact hp)
  ·have e':(nP (l++[(p,c)]) l.length== -1)=false:=by rw[nP_snoc_eq];simp;omega
   rw[top_up e',nP_snoc_eq];simp only;rw[top_snoc h 2 _ (by omega)];exact top_short h (by omega) (by rwa[Int.toNat_of_nonneg h0])
theorem fixP_or(l out:List (Int×Int))(k:Nat):fixP l out k= -1∨(0≤fixP l out k∧fixP l out k<k∧(pathF out 3 (fixP l out k)).length<3):=by
 unfold fixP;split
 ·rename_i h
  have h1:=Int.emod_nonneg (nP l k) (b:=(k:Int)) (by omega);have h2:=Int.emod_lt_of_pos (nP l k) (b:=(k:Int)) (by omega);split
  ·exact .inl rfl
  ·exact .inr ⟨h1,h2,by omega⟩
 ·exact .inl rfl
theorem okt_fixK(l:List (Int×Int))(k:Nat):Okt (fixK l k):=by
 induction k with
 |zero=>intro i hi;simp[fixK]at hi
 |succ k ih=>
  rw[fixK];refine okt_snoc ih (capF_b _) ?_;rw[fixK_len];exact fixP_or l _ k
theorem fixF_len(l:List (Int×Int)):1≤(fixF l).length∧(fixF l).length≤10:=by
 unfold fixF;split
 ·simp
 ·rw[fixK_len];omega
theorem okt_wf(h:Okt l)(hl:l.length≤32):WfN l:=fun i hi=>by
 have:=h i hi
 exact⟨⟨by omega,by omega⟩,⟨by omega,by omega⟩⟩
theorem okt_scan(h:Okt l): ∀(g k:Nat),k+g=l.length→scanF l g k=climbF l l.length 0
 |0,k,_=>rfl
 |g+1,k,e=>by
  have hb:=h k (by omega)
  rw[scan_go (g:=g) (by by_cases e:nP l k= -1;exact .inl e;exact .inr (inR_t (by omega) (by omega))) hb.2.2.1 hb.2.2.2.1]
  exact okt_scan h g (k+1) (by omega)
theorem okt_climb(h:Okt l): ∀(g k:Nat),k+g=l.length→climbF l g k=(0,-1)
 |0,k,_=>rfl
 |g+1,k,e=>by
  rw[climbF_go (h k (by omega)).2.2.2.2]
  exact okt_climb h g (k+1) (by omega)
theorem okt_chk(h:Okt l)(h1:1≤l.length)(h2:l.length≤32):chk l=(0,-1):=by
 rw[chk,if_neg (by omega),if_neg (by omega),okt_scan h _ 0 (by omega),okt_climb h _ 0 (by omega)]
theorem wrap_u64(x:Int):IntKind.u64.wrap x=x%18446744073709551616:=by simp[IntKind.wrap,IntKind.bits,IntKind.signed]
theorem capE(c:Int):wrap64 ((IntKind.u64.wrap c).tmod 4611686018427387905)=capF c:=by
 rw[wrap_u64,Int.tmod_eq_emod_of_nonneg (Int.emod_nonneg _ (by decide))];have:=capF_b c;unfold wrap64;show _=capF c;change ((capF c)+_)%_-_=_;omega
theorem rpath_n(n:Nat)(A:Option Addr)(c:Nat)(l:List (Int×Int))(m:Int)(w:World)(hn:n=l.length)(hl:Hid (Nds w w.heap.size A l))(hw:Hid (WfN l))(hmax:(l.length:Int)≤9223372036854775807)(hm:inI m):
  Calls Tryz.prog 89 #[.slice A n c,.int .i64 m] w (MadeI (pathF l 3 m) w):=by subst hn;exact rpath_any A c l m w hl hw hmax hm
end Fix3
namespace Rck
open Ref3
theorem rcheck_any (A : Option Addr) (c : Nat) (l : List (Int × Int)) (w : World) (hl : Hid (Nds w w.heap.size A l)) (hw : Hid (WfN l)) (hmax : (l.length : Int) ≤ 9223372036854775807) :
    Calls Tryz.prog 42 #[.slice A l.length c] w (Made2 (chk l) w) := by
  by_cases h32 : 32 < l.length
  · go_enter Tryz.func42, Tryz.ntmps42
    go_wp2
    go_ret2
    exact made2 (by rw [chk, if_pos h32]) (Below.refl _ _)
  by_cases h0 : l.length = 0
  · have h0' : l = [] := List.eq_nil_of_length_eq_zero h0
    subst h0'
    go_enter Tryz.func42, Tryz.ntmps42
    go_wp2
    go_ret2
    exact made2 rfl (Below.refl _ _)
  obtain ⟨b, o, hA, hb, hc⟩ := Nds.at hl.out (by omega)
  have HC := Lib.hid hc
  have H0 : ((l.length : Int) == 0) = false := beq_eq_false_iff_ne.2 (by omega)
  have hchk : Hid (chk l = scanF l l.length 0) := by show _ = _; rw [chk, if_neg h32, if_neg h0]
  clear hc h0
  subst hA
  go_enter Tryz.func42, Tryz.ntmps42
  go_wp2
  go_loopg [4] l.length (fun g s4 w' => ∃ k : Nat, k + g = l.length ∧ s4 = .int .i64 k ∧ Hid (scanF l g k = scanF l l.length 0) ∧ Hid (∀ j, j < k → nP l j = -1 ∨ inR l.length (nP l j) = true) ∧ w = w')
  case atStart => exact ⟨0, by omega, rfl, rfl, fun j hj => absurd hj (Nat.not_lt_zero j), rfl⟩
  case round =>
    obtain ⟨k, hk, rfl, hall, hpar, rfl⟩ := hrel
    by_cases hlt : (k : Int) < (l.length : Int)
    · obtain ⟨g, rfl⟩ : ∃ g, gk = g + 1 := ⟨gk - 1, by omega⟩
      have hc0 : w.cell? ⟨b, o + k * 2, none⟩ = some (.int .i64 (nP l k)) := (HC.out k (by omega)).1
      have hc1 : w.cell? ⟨b, o + k * 2 + 1, none⟩ = some (.int .i64 (nC l k)) := (HC.out k (by omega)).2
      by_cases hP : -1 ≤ nP l k ∧ nP l k < l.length
      · have hP' : nP l k = -1 ∨ inR l.length (nP l k) = true := by
          by_cases e : nP l k = -1
          · exact .inl e
          · exact .inr (inR_t (by omega) (by omega))
        obtain ⟨hP0, hP1⟩ := hP
        by_cases hC : 0 ≤ nC l k ∧ nC l k ≤ 4611686018427387904
        · have hall' : Hid (scanF l g (k + 1) = scanF l l.length 0) := (scan_go hP' hC.1 hC.2).symm.trans hall.out
          have hpar' : Hid (∀ j, j < k + 1 → nP l j = -1 ∨ inR l.length (nP l j) = true) := fun j hj => by
            by_cases e : j = k
            · subst e; exact hP'
            · exact hpar.out j (by omega)
          obtain ⟨hC0, hC1⟩ := hC
          clear hP'
          go_wp2_with fail
          go_roundg g
          case measure => omega
          case rel => exact ⟨k + 1, by omega, by go_num, hall', hpar', rfl⟩
        · have hres : Hid (scanF l l.length 0 = (1, (k : Int))) := by
            show _ = _
            rw [← hall.out]; exact scan_1 hP' (by omega)
          clear hP'
          by_cases hC0 : nC l k < 0
          · clear hC
            go_wp2_with fail
            go_ret2
            exact made2 (hchk.out.trans hres.out) (Below.refl _ _)
          · have hC1 : 4611686018427387904 < nC l k := by omega
            clear hC
            go_wp2_with fail
            go_ret2
            exact made2 (hchk.out.trans hres.out) (Below.refl _ _)
      · have hm : (nP l k != -1) = true := by simp; omega
        have hres : Hid (scanF l l.length 0 = (18, (k : Int))) := by
          show _ = _
          rw [← hall.out]; exact scan_18 hm (inR_f (by omega))
        clear hm
        by_cases hP0 : nP l k < -1
        · clear hP
          go_wp2_with fail
          go_ret2
          exact made2 (hchk.out.trans hres.out) (Below.refl _ _)
        · have hP1 : (l.length : Int) ≤ nP l k := by omega
          clear hP
          go_wp2_with fail
          go_ret2
          exact made2 (hchk.out.trans hres.out) (Below.refl _ _)
    · have hres : Hid (scanF l l.length 0 = climbF l l.length 0) := by
        show _ = _
        rw [← hall.out, show gk = 0 by omega]; rfl
      have hparA : Hid (Par l) := by
        intro i hi
        rcases hpar.out i (by omega) with h | h
        · omega
        · have := inR_of h; omega
      clear hpar hall
      go_wp2_with fail
      go_loopg [5] l.length (fun g s5 w' => ∃ k : Nat, k + g = l.length ∧ s5 = .int .i64 k ∧ Hid (climbF l g k = climbF l l.length 0) ∧ Below w.heap.size w w')
      case atStart => exact ⟨0, by omega, rfl, rfl, Below.refl _ _⟩
      case round =>
        obtain ⟨j, hj, rfl, hall, hbel⟩ := hrel
        have hl' : Hid (Nds wr wr.heap.size (some ⟨b, o, none⟩) l) := Rd.below' hl.out hbel hbel.size
        by_cases hlt : (j : Int) < (l.length : Int)
        · obtain ⟨g, rfl⟩ : ∃ g, gk = g + 1 := ⟨gk - 1, by omega⟩
          have hft := fit_top hparA.out 3 j (by omega)
          cases ht : top l 3 j with
          | true =>
            have hall' : Hid (climbF l g (j + 1) = climbF l l.length 0) := (climbF_go ht).symm.trans hall.out
            rw [ht] at hft
            clear ht
            go_wp2_with (go_at_call 72; refine (rclimb_any _ _ _ _ _ hl' hw hmax ⟨by omega, by omega⟩).mono ?_; rintro e w1 ⟨A', c', rfl, hr, hb1⟩; have HR := Lib.hid hr; clear hr)
            go_roundg g
            case measure => omega
            case rel => exact ⟨j + 1, by omega, by go_num, hall', hbel.trans (hb1.mono hbel.size)⟩
          | false =>
            have hres2 : Hid (climbF l l.length 0 = (16, (j : Int))) := hall.out.symm.trans (climbF_no ht)
            rw [ht] at hft
            clear ht
            go_wp2_with (go_at_call 72; refine (rclimb_any _ _ _ _ _ hl' hw hmax ⟨by omega, by omega⟩).mono ?_; rintro e w1 ⟨A', c', rfl, hr, hb1⟩; have HR := Lib.hid hr; clear hr)
            go_ret2
            exact made2 (hchk.out.trans (hres.out.trans hres2.out)) (hbel.trans (hb1.mono hbel.size))
        · have hres2 : Hid (climbF l l.length 0 = (0, -1)) := by
            show _ = _
            rw [← hall.out, show gk = 0 by omega]; rfl
          go_wp2_with fail
          go_ret2
          exact made2 (hchk.out.trans (hres.out.trans hres2.out)) hbel
end Rck
end Go.Proofs.YtaeddnjjeholgaaGreat
