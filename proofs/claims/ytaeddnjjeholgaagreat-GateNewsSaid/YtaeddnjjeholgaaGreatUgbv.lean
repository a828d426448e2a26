/- Texts side by side. -/
import Derived.Laws.BitsAllLaws
import Derived.Maps.Range
import Derived.Test.YtaeddnjjeholgaaGreatUgbb
import Derived.Test.YtaeddnjjeholgaaGreatUgbs
set_option linter.unusedVariables false
set_option linter.unusedSimpArgs false
set_option maxRecDepth 100000
set_option maxHeartbeats 16000000
namespace Go.Proofs.YtaeddnjjeholgaaGreat
open Go.ChangeShapes Go.WideShapes Go.ChangeAt Go.RowKit Mem Tre Ref3 Law3 Fix3 CrdB Wpl Wmr
namespace Wrt
open Kap Abv
theorem wbtw_any(a n b:Int)(w:World):Calls Tryz.prog 97 #[.int .i64 a,.int .i64 n,.int .i64 b] w fun e w'=>e= .returned (.bool (decide (a≤n)&&decide (n≤b)))∧w=w':=by
 by_cases h0:a≤n
 ·have t0:decide (a≤n)=true:=by simp;exact h0
  by_cases h1:n≤b
  ·have t1:decide (n≤b)=true:=by simp;exact h1
   go_enter Tryz.func97,Tryz.ntmps97
   go_wp2
   go_ret;exact⟨by first|rfl|(rw[t0,t1];rfl),rfl⟩
  ·have t1:decide (n≤b)=false:=by simp;omega
   go_enter Tryz.func97,Tryz.ntmps97
   go_wp2
   go_ret;exact⟨by first|rfl|(rw[t0,t1];rfl),rfl⟩
 ·have t0:decide (a≤n)=false:=by simp;omega
  go_enter Tryz.func97,Tryz.ntmps97
  go_wp2
  go_ret;exact⟨by first|rfl|(rw[t0];rfl),rfl⟩
def mn(x y:Int):Int:=if y<x then y else x
theorem mn_ge{x y:Int}:0≤mn x y↔0≤x∧0≤y:=by unfold mn;split<;>omega
theorem run_min6{P:Program}{w:World}(ats:Array TypeId)(ty:TypeId)(p q n t y v:Int):
  (Builtin.min_ ats ty #[.int .i64 p,.int .i64 q,.int .i64 n,.int .i64 t,.int .i64 y,.int .i64 v]).run P w= .ok (.int .i64 (mn (mn (mn (mn (mn p q) n) t) y) v)) w:=by
 simp[Builtin.min_,Builtin.min2,List.foldlM,Sem.run_bind,Sem.run_pure,Result.andThen,mn]<;>rfl
attribute [local go_sem] run_min6
def MadeBl(b:Bool)(w:World)(e:Ending)(w':World):Prop:=e= .returned (.bool b)∧Below w.heap.size w w'
theorem fits_any(m:M)(w:World):Calls Tryz.prog 99 #[mvl m] w (MadeBl (fitM m) w):=by
 obtain⟨k,a,s,x,p,q,n,t,i,y,z,v⟩:=m;show Calls Tryz.prog 99 #[.agg #[.int .i64 k,.int .i64 a,.int .i64 s,.bool x,.int .i64 p,.int .i64 q,.int .i64 n,.int .i64 t,.int .i64 i,.int .i64 y,.int .i64 z,.int .i64 v]] w (MadeBl (fitM ⟨k,a,s,x,p,q,n,t,i,y,z,v⟩) w);by_cases ha:0≤a∧a≤65535
 case neg=>
  have e:fitM ⟨k,a,s,x,p,q,n,t,i,y,z,v⟩=false:=by unfold fitM;simp only[decide_eq_false_iff_not];intro h;exact ha (by omega)
  rw[e];have ta:(decide (0≤a)&&decide (a≤65535))=false:=by simp;omega
  go_enter Tryz.func99,Tryz.ntmps99
  go_wp2_with (go_at_call 97;refine(wbtw_any _ _ _ _).mono ?_;rintro e w' ⟨rfl,rfl⟩)
  go_ret;exact⟨rfl,(ψ.alloc τ _).alloc (by simp) _⟩
 have ta:(decide (0≤a)&&decide (a≤65535))=true:=by simp;omega
 by_cases hs:0≤s∧s≤65535
 case neg=>
  have e:fitM ⟨k,a,s,x,p,q,n,t,i,y,z,v⟩=false:=by unfold fitM;simp only[decide_eq_false_iff_not];intro h;exact hs (by omega)
  rw[e];have ts:(decide (0≤s)&&decide (s≤65535))=false:=by simp;omega
  go_enter Tryz.func99,Tryz.ntmps99
  go_wp2_with (go_at_call 97;refine(wbtw_any _ _ _ _).mono ?_;rintro e w' ⟨rfl,rfl⟩)
  go_ret;exact⟨rfl,(ψ.alloc τ _).alloc (by simp) _⟩
 have ts:(decide (0≤s)&&decide (s≤65535))=true:=by simp;omega
 by_cases hz:0≤z∧z≤65535
 case neg=>
  have e:fitM ⟨k,a,s,x,p,q,n,t,i,y,z,v⟩=false:=by unfold fitM;simp only[decide_eq_false_iff_not];intro h;exact hz (by omega)
  rw[e];have tz:(decide (0≤z)&&decide (z≤65535))=false:=by simp;omega
  go_enter Tryz.func99,Tryz.ntmps99
  go_wp2_with (go_at_call 97;refine(wbtw_any _ _ _ _).mono ?_;rintro e w' ⟨rfl,rfl⟩)
  go_ret;exact⟨rfl,(ψ.alloc τ _).alloc (by simp) _⟩
 have tz:(decide (0≤z)&&decide (z≤65535))=true:=by simp;omega
 by_cases hi:0≤i∧i≤4294967295
 case neg=>
  have e:fitM ⟨k,a,s,x,p,q,n,t,i,y,z,v⟩=false:=by unfold fitM;simp only[decide_eq_false_iff_not];intro h;exact hi (by omega)
  rw[e];have ti:(decide (0≤i)&&decide (i≤4294967295))=false:=by simp;omega
  go_enter Tryz.func99,Tryz.ntmps99
  go_wp2_with (go_at_call 97;refine(wbtw_any _ _ _ _).mono ?_;rintro e w' ⟨rfl,rfl⟩)
  go_ret;exact⟨rfl,(ψ.alloc τ _).alloc (by simp) _⟩
 have ti:(decide (0≤i)&&decide (i≤4294967295))=true:=by simp;omega
 by_cases hm:0≤p∧0≤q∧0≤n∧0≤t∧0≤y∧0≤v
 case neg=>
  have e:fitM ⟨k,a,s,x,p,q,n,t,i,y,z,v⟩=false:=by unfold fitM;simp only[decide_eq_false_iff_not];intro h;exact hm (by omega)
  rw[e];have tm:decide (0≤mn (mn (mn (mn (mn p q) n) t) y) v)=false:=by rw[decide_eq_false_iff_not];simp only[mn_ge];omega
  go_enter Tryz.func99,Tryz.ntmps99
  go_wp2_with (go_at_call 97;refine(wbtw_any _ _ _ _).mono ?_;rintro e w' ⟨rfl,rfl⟩)
  go_ret;exact⟨rfl,(ψ.alloc τ _).alloc (by simp) _⟩
 have tm:decide (0≤mn (mn (mn (mn (mn p q) n) t) y) v)=true:=by rw[decide_eq_true_eq];simp only[mn_ge];omega
 have e:fitM ⟨k,a,s,x,p,q,n,t,i,y,z,v⟩=true:=by unfold fitM;simp only[decide_eq_true_eq];omega
 rw[e]
 go_enter Tryz.func99,Tryz.ntmps99
 go_wp2_with (go_at_call 97;refine(wbtw_any _ _ _ _).mono ?_;rintro e w' ⟨rfl,rfl⟩)
 go_ret;exact⟨rfl,(ψ.alloc τ _).alloc (by simp) _⟩
theorem c12_of{W:World}{g:Nat}{te:TypeId}{v0 v1 v2 v3 v4 v5 v6 v7 v8 v9 v10 v11:Value}(h:Blk W g te #[v0,v1,v2,v3,v4,v5,v6,v7,v8,v9,v10,v11]):W.cell? ⟨g,0,none⟩=some v0∧W.cell? ⟨g,1,none⟩=some v1∧W.cell? ⟨g,2,none⟩=some v2∧W.cell? ⟨g,3,none⟩=some v3∧W.cell? ⟨g,4,none⟩=some v4∧W.cell? ⟨g,5,none⟩=some v5∧W.cell? ⟨g,6,none⟩=some v6∧W.cell? ⟨g,7,none⟩=some v7∧W.cell? ⟨g,8,none⟩=some v8∧W.cell? ⟨g,9,none⟩=some v9∧W.cell? ⟨g,10,none⟩=some v10∧W.cell? ⟨g,11,none⟩=some v11:=
 ⟨h.cell 0,h.cell 1,h.cell 2,h.cell 3,h.cell 4,h.cell 5,h.cell 6,h.cell 7,h.cell 8,h.cell 9,h.cell 10,h.cell 11⟩
attribute [local go_sem high] eqP12
theorem mvl_mk(m:M):mvl m= .agg #[.int .i64 m.k,.int .i64 m.a,.int .i64 m.s,.bool m.x,.int .i64 m.p,.int .i64 m.q,.int .i64 m.n,.int .i64 m.t,.int .i64 m.i,.int .i64 m.y,.int .i64 m.z,.int .i64 m.v]:=rfl
theorem right_eq(m n:M)(h:alM m=n):rightM m=((decide (0≤m.k)&&decide (m.k≤6))&&(eqM m n&&fitM m)):=by unfold rightM;rw[h]
theorem right_any(m:M)(w:World):Calls Tryz.prog 74 #[mvl m] w (MadeBl (rightM m) w):=by
 obtain⟨k,a,s,x,p,q,n,t,i,y,z,v⟩:=m;show Calls Tryz.prog 74 #[.agg #[.int .i64 k,.int .i64 a,.int .i64 s,.bool x,.int .i64 p,.int .i64 q,.int .i64 n,.int .i64 t,.int .i64 i,.int .i64 y,.int .i64 z,.int .i64 v]] w (MadeBl (rightM ⟨k,a,s,x,p,q,n,t,i,y,z,v⟩) w);generalize hA:alM ⟨k,a,s,x,p,q,n,t,i,y,z,v⟩=A;obtain⟨k2,a2,s2,x2,p2,q2,n2,t2,i2,y2,z2,v2⟩:=A;have hr:rightM ⟨k,a,s,x,p,q,n,t,i,y,z,v⟩=((decide (0≤k)&&decide (k≤6))&&(eqM ⟨k,a,s,x,p,q,n,t,i,y,z,v⟩ ⟨k2,a2,s2,x2,p2,q2,n2,t2,i2,y2,z2,v2⟩&&fitM ⟨k,a,s,x,p,q,n,t,i,y,z,v⟩)):=right_eq _ _ hA;generalize h0:(decide ((0:Int)≤k)&&decide (k≤6))=c0 at hr;generalize h1:eqM ⟨k,a,s,x,p,q,n,t,i,y,z,v⟩ ⟨k2,a2,s2,x2,p2,q2,n2,t2,i2,y2,z2,v2⟩=c1 at hr;generalize h2:fitM ⟨k,a,s,x,p,q,n,t,i,y,z,v⟩=c2 at hr;rw[hr];clear hr;have b0:=κ ((β w (.cells (vM k a s x p q n t i y z v) 53)).drew);have K0:Hid (Blk (w.alloc (.cells (vM k a s x p q n t i y z v) 53)).drew w.heap.size 53 (vM k a s x p q n t i y z v)):=Blk.fresh w _ _
 go_enter Tryz.func74,Tryz.ntmps74
 go_upto_region 1 with fail
 have s0:(w.alloc (.cells (vM k a s x p q n t i y z v) 53)).cell? (α w.heap.size 0)=some (ι k)∧(w.alloc (.cells (vM k a s x p q n t i y z v) 53)).cell? (α w.heap.size 1)=some (ι a)∧(w.alloc (.cells (vM k a s x p q n t i y z v) 53)).cell? (α w.heap.size 2)=some (ι s)∧(w.alloc (.cells (vM k a s x p q n t i y z v) 53)).cell? (α w.heap.size 3)=some (.bool x)∧(w.alloc (.cells (vM k a s x p q n t i y z v) 53)).cell? (α w.heap.size 4)=some (ι p)∧(w.alloc (.cells (vM k a s x p q n t i y z v) 53)).cell? (α w.heap.size 5)=some (ι q)∧(w.alloc (.cells (vM k a s x p q n t i y z v) 53)).cell? (α w.heap.size 6)=some (ι n)∧(w.alloc (.cells (vM k a s x p q n t i y z v) 53)).cell? (α w.heap.size 7)=some (ι t)∧(w.alloc (.cells (vM k a s x p q n t i y z v) 53)).cell? (α w.heap.size 8)=some (ι i)∧(w.alloc (.cells (vM k a s x p q n t i y z v) 53)).cell? (α w.heap.size 9)=some (ι y)∧(w.alloc (.cells (vM k a s x p q n t i y z v) 53)).cell? (α w.heap.size 10)=some (ι z)∧(w.alloc (.cells (vM k a s x p q n t i y z v) 53)).cell? (α w.heap.size 11)=some (ι v):=c12_of K0.out;generalize w.alloc (.cells (vM k a s x p q n t i y z v) 53)=w0 at b0 K0 s0 ⊢;generalize w.heap.size=g0 at K0 s0 ⊢;by_cases hc0:c0=true
 case neg=>
  obtain rfl:c0=false:=by simpa using hc0
  go_region_with (first
    |(go_at_call 97;refine(wbtw_any _ _ _ _).mono ?_;rintro e w1 ⟨rfl,rfl⟩)
    |(go_at_call 98;refine(alone_any ⟨k,a,s,x,p,q,n,t,i,y,z,v⟩ _).mono ?_;rintro e w2 ⟨rfl,hb2⟩;rw[hA,mvl_mk];have B2:Hid (Below w.heap.size w w2):=below_step b0.out hb2;have K2:Hid (Blk w2 g0 53 #[.int .i64 k,.int .i64 a,.int .i64 s,.bool x,.int .i64 p,.int .i64 q,.int .i64 n,.int .i64 t,.int .i64 i,.int .i64 y,.int .i64 z,.int .i64 v]):=Blk.below' K0.out hb2;have q2:w2.cell? ⟨g0,0,none⟩=some (.int .i64 k)∧w2.cell? ⟨g0,1,none⟩=some (.int .i64 a)∧w2.cell? ⟨g0,2,none⟩=some (.int .i64 s)∧w2.cell? ⟨g0,3,none⟩=some (.bool x)∧w2.cell? ⟨g0,4,none⟩=some (.int .i64 p)∧w2.cell? ⟨g0,5,none⟩=some (.int .i64 q)∧w2.cell? ⟨g0,6,none⟩=some (.int .i64 n)∧w2.cell? ⟨g0,7,none⟩=some (.int .i64 t)∧w2.cell? ⟨g0,8,none⟩=some (.int .i64 i)∧w2.cell? ⟨g0,9,none⟩=some (.int .i64 y)∧w2.cell? ⟨g0,10,none⟩=some (.int .i64 z)∧w2.cell? ⟨g0,11,none⟩=some (.int .i64 v):=c12_of K2.out)
    |(go_at_call 99;refine(fits_any ⟨k,a,s,x,p,q,n,t,i,y,z,v⟩ _).mono ?_;rintro e w3 ⟨rfl,hb3⟩;rw[h2];have B3:Hid (Below w.heap.size w w3):=below_step B2.out hb3;have K3:Hid (Blk w3 g0 53 #[.int .i64 k,.int .i64 a,.int .i64 s,.bool x,.int .i64 p,.int .i64 q,.int .i64 n,.int .i64 t,.int .i64 i,.int .i64 y,.int .i64 z,.int .i64 v]):=Blk.below' K2.out hb3;have q3:w3.cell? ⟨g0,0,none⟩=some (.int .i64 k)∧w3.cell? ⟨g0,1,none⟩=some (.int .i64 a)∧w3.cell? ⟨g0,2,none⟩=some (.int .i64 s)∧w3.cell? ⟨g0,3,none⟩=some (.bool x)∧w3.cell? ⟨g0,4,none⟩=some (.int .i64 p)∧w3.cell? ⟨g0,5,none⟩=some (.int .i64 q)∧w3.cell? ⟨g0,6,none⟩=some (.int .i64 n)∧w3.cell? ⟨g0,7,none⟩=some (.int .i64 t)∧w3.cell? ⟨g0,8,none⟩=some (.int .i64 i)∧w3.cell? ⟨g0,9,none⟩=some (.int .i64 y)∧w3.cell? ⟨g0,10,none⟩=some (.int .i64 z)∧w3.cell? ⟨g0,11,none⟩=some (.int .i64 v):=c12_of K3.out))
  all_goals
   go_wp2_with fail
   go_ret;exact⟨rfl,(Hid.out (by assumption))⟩
 subst hc0;by_cases hc1:c1=true
 case neg=>
  obtain rfl:c1=false:=by simpa using hc1
  go_region_with (first
    |(go_at_call 97;refine(wbtw_any _ _ _ _).mono ?_;rintro e w1 ⟨rfl,rfl⟩)
    |(go_at_call 98;refine(alone_any ⟨k,a,s,x,p,q,n,t,i,y,z,v⟩ _).mono ?_;rintro e w2 ⟨rfl,hb2⟩;rw[hA,mvl_mk];have B2:=κ (below_step b0.out hb2);have K2:=κ (Blk.below' K0.out hb2);have q2:=c12_of K2.out)
    |(go_at_call 99;refine(fits_any ⟨k,a,s,x,p,q,n,t,i,y,z,v⟩ _).mono ?_;rintro e w3 ⟨rfl,hb3⟩;rw[h2];have B3:Hid (Below w.heap.size w w3):=below_step B2.out hb3;have K3:Hid (Blk w3 g0 53 #[.int .i64 k,.int .i64 a,.int .i64 s,.bool x,.int .i64 p,.int .i64 q,.int .i64 n,.int .i64 t,.int .i64 i,.int .i64 y,.int .i64 z,.int .i64 v]):=Blk.below' K2.out hb3;have q3:w3.cell? ⟨g0,0,none⟩=some (.int .i64 k)∧w3.cell? ⟨g0,1,none⟩=some (.int .i64 a)∧w3.cell? ⟨g0,2,none⟩=some (.int .i64 s)∧w3.cell? ⟨g0,3,none⟩=some (.bool x)∧w3.cell? ⟨g0,4,none⟩=some (.int .i64 p)∧w3.cell? ⟨g0,5,none⟩=some (.int .i64 q)∧w3.cell? ⟨g0,6,none⟩=some (.int .i64 n)∧w3.cell? ⟨g0,7,none⟩=some (.int .i64 t)∧w3.cell? ⟨g0,8,none⟩=some (.int .i64 i)∧w3.cell? ⟨g0,9,none⟩=some (.int .i64 y)∧w3.cell? ⟨g0,10,none⟩=some (.int .i64 z)∧w3.cell? ⟨g0,11,none⟩=some (.int .i64 v):=c12_of K3.out))
  all_goals
   go_wp2_with fail
   go_ret;exact⟨rfl,(Hid.out (by assumption))⟩
 subst hc1;cases c2
 all_goals
  go_region_held3 (fun w'=>w'.cell? ⟨g0,0,none⟩=some (.int .i64 k)∧w'.cell? ⟨g0,1,none⟩=some (.int .i64 a)∧w'.cell? ⟨g0,2,none⟩=some (.int .i64 s)∧w'.cell? ⟨g0,3,none⟩=some (.bool x)∧w'.cell? ⟨g0,4,none⟩=some (.int .i64 p)∧w'.cell? ⟨g0,5,none⟩=some (.int .i64 q)∧w'.cell? ⟨g0,6,none⟩=some (.int .i64 n)∧w'.cell? ⟨g0,7,none⟩=some (.int .i64 t)∧w'.cell? ⟨g0,8,none⟩=some (.int .i64 i)∧w'.cell? ⟨g0,9,none⟩=some (.int .i64 y)∧w'.cell? ⟨g0,10,none⟩=some (.int .i64 z)∧w'.cell? ⟨g0,11,none⟩=some (.int .i64 v))
   (first|go_keep|(with_reducible assumption)|(exact q2)|(exact q3))
   (first
    |(go_at_call 97;refine(wbtw_any _ _ _ _).mono ?_;rintro e w1 ⟨rfl,rfl⟩)
    |(go_at_call 98;refine(alone_any ⟨k,a,s,x,p,q,n,t,i,y,z,v⟩ _).mono ?_;rintro e w2 ⟨rfl,hb2⟩;rw[hA,mvl_mk];have B2:=κ (below_step b0.out hb2);have K2:=κ (Blk.below' K0.out hb2);have q2:=c12_of K2.out)
    |(go_at_call 99;refine(fits_any ⟨k,a,s,x,p,q,n,t,i,y,z,v⟩ _).mono ?_;rintro e w3 ⟨rfl,hb3⟩;rw[h2];have B3:=κ (below_step B2.out hb3);have K3:=κ (Blk.below' K2.out hb3);have q3:=c12_of K3.out))
  all_goals
   go_wp2_with fail
   go_ret;exact⟨rfl,(Hid.out (by assumption))⟩
end Wrt
namespace Wen
open Rr4 Wrt St7 Rul6
def Oth (w w' : World) : Prop := ∀ g te cs, te ≠ 5 → Blk w g te cs → Blk w' g te cs
theorem Oth.refl (w : World) : Oth w w := fun _ _ _ _ h => h
theorem Oth.trans {a b c : World} (h : Oth a b) (k : Oth b c) : Oth a c := fun g te cs hne hb => k g te cs hne (h g te cs hne hb)
theorem Oth.alloc (w : World) (o : Obj) : Oth w (w.alloc o) := fun _ _ _ _ h => h.alloc o
theorem Oth.grown {w w' : World} {base size n : Nat} {v : Value} {xs : List Value} (ho : w.ownsRow base 5 size v n xs) (hg : w.grownBy w' v.ownBlock) : Oth w w' :=
  fun g te cs hne hb => Blk_grown hb hg (Ne.symm (own_blk_ne ho hb (Ne.symm hne)))
theorem Oth.below {w w' : World} (h : Below w.heap.size w w') : Oth w w' := fun g te cs _ hb => Blk.below' hb h
end Wen
namespace Wrd
open CrdC Rr4 Wrt St7 Rul6 Wen Wtk
def Rdr (w : World) (g B : Nat) (te : TypeId) (l : List UInt8) (bad : Bool) : Prop :=
  ∃ A c, Blk w g te #[.slice A l.length c, .bool bad] ∧ B ≤ g ∧ By w B A l ∧ l.length ≤ c ∧ (c : Int) ≤ 9223372036854775807 ∧ l.length ≤ 1000000
theorem grown_set (w : World) (g i : Nat) (u : Value) : w.grownBy (w.setCell ⟨g, i, none⟩ u) (some g) :=
  ⟨rfl, rfl, rfl, by simp [World.setCell], fun k hk hne => Below.heap_setCell w _ u k (by intro e; exact hne (by rw [e]))⟩
theorem Rdr.far {W : World} {g B gV i : Nat} {te : TypeId} {l : List UInt8} {bad : Bool} (h : Rdr W g B te l bad) (hne : g < gV) (v : Value) : Rdr (W.setCell ⟨gV, i, none⟩ v) g B te l bad := by
  obtain ⟨A, c, hb, hB, hby, r⟩ := h
  refine ⟨A, c, blk_far hb (by show g ≠ gV; omega) _, hB, ?_, r⟩
  rcases hby with h | ⟨b, o, hA, hbb, hc⟩
  · exact .inl h
  · exact .inr ⟨b, o, hA, hbb, fun j u hu => by rw [World.cell?_of_block (w := W) (Below.heap_setCell W _ v b (by show b ≠ gV; omega))]; exact hc j u hu⟩
end Wrd
namespace Wfi
open CrdC Rr4 Wrt St7 Rul6 Wen Wtk Wrd
def st12 (W : World) (g : Nat) (q0 q1 q2 q3 q4 q5 q6 q7 q8 q9 q10 q11 : Value) : World := ((((((((((((W.setCell ⟨g, 0, none⟩ (q0)).setCell ⟨g, 1, none⟩ (q1)).setCell ⟨g, 2, none⟩ (q2)).setCell ⟨g, 3, none⟩ (q3)).setCell ⟨g, 4, none⟩ (q4)).setCell ⟨g, 5, none⟩ (q5)).setCell ⟨g, 6, none⟩ (q6)).setCell ⟨g, 7, none⟩ (q7)).setCell ⟨g, 8, none⟩ (q8)).setCell ⟨g, 9, none⟩ (q9)).setCell ⟨g, 10, none⟩ (q10)).setCell ⟨g, 11, none⟩ (q11))
theorem st12_blk {W : World} {g : Nat} {te : TypeId} {e0 e1 e2 e3 e4 e5 e6 e7 e8 e9 e10 e11 q0 q1 q2 q3 q4 q5 q6 q7 q8 q9 q10 q11 : Value} (h : Blk W g te #[e0, e1, e2, e3, e4, e5, e6, e7, e8, e9, e10, e11]) : Blk (st12 W g q0 q1 q2 q3 q4 q5 q6 q7 q8 q9 q10 q11) g te #[q0, q1, q2, q3, q4, q5, q6, q7, q8, q9, q10, q11] := by
  have k0 : Blk (W.setCell ⟨g, 0, none⟩ (q0)) g te #[q0, e1, e2, e3, e4, e5, e6, e7, e8, e9, e10, e11] := blk_set h 0 q0
  have k1 : Blk ((W.setCell ⟨g, 0, none⟩ (q0)).setCell ⟨g, 1, none⟩ (q1)) g te #[q0, q1, e2, e3, e4, e5, e6, e7, e8, e9, e10, e11] := blk_set k0 1 q1
  have k2 : Blk (((W.setCell ⟨g, 0, none⟩ (q0)).setCell ⟨g, 1, none⟩ (q1)).setCell ⟨g, 2, none⟩ (q2)) g te #[q0, q1, q2, e3, e4, e5, e6, e7, e8, e9, e10, e11] := blk_set k1 2 q2
  have k3 : Blk ((((W.setCell ⟨g, 0, none⟩ (q0)).setCell ⟨g, 1, none⟩ (q1)).setCell ⟨g, 2, none⟩ (q2)).setCell ⟨g, 3, none⟩ (q3)) g te #[q0, q1, q2, q3, e4, e5, e6, e7, e8, e9, e10, e11] := blk_set k2 3 q3
  have k4 : Blk (((((W.setCell ⟨g, 0, none⟩ (q0)).setCell ⟨g, 1, none⟩ (q1)).setCell ⟨g, 2, none⟩ (q2)).setCell ⟨g, 3, none⟩ (q3)).setCell ⟨g, 4, none⟩ (q4)) g te #[q0, q1, q2, q3, q4, e5, e6, e7, e8, e9, e10, e11] := blk_set k3 4 q4
  have k5 : Blk ((((((W.setCell ⟨g, 0, none⟩ (q0)).setCell ⟨g, 1, none⟩ (q1)).setCell ⟨g, 2, none⟩ (q2)).setCell ⟨g, 3, none⟩ (q3)).setCell ⟨g, 4, none⟩ (q4)).setCell ⟨g, 5, none⟩ (q5)) g te #[q0, q1, q2, q3, q4, q5, e6, e7, e8, e9, e10, e11] := blk_set k4 5 q5
  have k6 : Blk (((((((W.setCell ⟨g, 0, none⟩ (q0)).setCell ⟨g, 1, none⟩ (q1)).setCell ⟨g, 2, none⟩ (q2)).setCell ⟨g, 3, none⟩ (q3)).setCell ⟨g, 4, none⟩ (q4)).setCell ⟨g, 5, none⟩ (q5)).setCell ⟨g, 6, none⟩ (q6)) g te #[q0, q1, q2, q3, q4, q5, q6, e7, e8, e9, e10, e11] := blk_set k5 6 q6
  have k7 : Blk ((((((((W.setCell ⟨g, 0, none⟩ (q0)).setCell ⟨g, 1, none⟩ (q1)).setCell ⟨g, 2, none⟩ (q2)).setCell ⟨g, 3, none⟩ (q3)).setCell ⟨g, 4, none⟩ (q4)).setCell ⟨g, 5, none⟩ (q5)).setCell ⟨g, 6, none⟩ (q6)).setCell ⟨g, 7, none⟩ (q7)) g te #[q0, q1, q2, q3, q4, q5, q6, q7, e8, e9, e10, e11] := blk_set k6 7 q7
  have k8 : Blk (((((((((W.setCell ⟨g, 0, none⟩ (q0)).setCell ⟨g, 1, none⟩ (q1)).setCell ⟨g, 2, none⟩ (q2)).setCell ⟨g, 3, none⟩ (q3)).setCell ⟨g, 4, none⟩ (q4)).setCell ⟨g, 5, none⟩ (q5)).setCell ⟨g, 6, none⟩ (q6)).setCell ⟨g, 7, none⟩ (q7)).setCell ⟨g, 8, none⟩ (q8)) g te #[q0, q1, q2, q3, q4, q5, q6, q7, q8, e9, e10, e11] := blk_set k7 8 q8
  have k9 : Blk ((((((((((W.setCell ⟨g, 0, none⟩ (q0)).setCell ⟨g, 1, none⟩ (q1)).setCell ⟨g, 2, none⟩ (q2)).setCell ⟨g, 3, none⟩ (q3)).setCell ⟨g, 4, none⟩ (q4)).setCell ⟨g, 5, none⟩ (q5)).setCell ⟨g, 6, none⟩ (q6)).setCell ⟨g, 7, none⟩ (q7)).setCell ⟨g, 8, none⟩ (q8)).setCell ⟨g, 9, none⟩ (q9)) g te #[q0, q1, q2, q3, q4, q5, q6, q7, q8, q9, e10, e11] := blk_set k8 9 q9
  have k10 : Blk (((((((((((W.setCell ⟨g, 0, none⟩ (q0)).setCell ⟨g, 1, none⟩ (q1)).setCell ⟨g, 2, none⟩ (q2)).setCell ⟨g, 3, none⟩ (q3)).setCell ⟨g, 4, none⟩ (q4)).setCell ⟨g, 5, none⟩ (q5)).setCell ⟨g, 6, none⟩ (q6)).setCell ⟨g, 7, none⟩ (q7)).setCell ⟨g, 8, none⟩ (q8)).setCell ⟨g, 9, none⟩ (q9)).setCell ⟨g, 10, none⟩ (q10)) g te #[q0, q1, q2, q3, q4, q5, q6, q7, q8, q9, q10, e11] := blk_set k9 10 q10
  have k11 : Blk ((((((((((((W.setCell ⟨g, 0, none⟩ (q0)).setCell ⟨g, 1, none⟩ (q1)).setCell ⟨g, 2, none⟩ (q2)).setCell ⟨g, 3, none⟩ (q3)).setCell ⟨g, 4, none⟩ (q4)).setCell ⟨g, 5, none⟩ (q5)).setCell ⟨g, 6, none⟩ (q6)).setCell ⟨g, 7, none⟩ (q7)).setCell ⟨g, 8, none⟩ (q8)).setCell ⟨g, 9, none⟩ (q9)).setCell ⟨g, 10, none⟩ (q10)).setCell ⟨g, 11, none⟩ (q11)) g te #[q0, q1, q2, q3, q4, q5, q6, q7, q8, q9, q10, q11] := blk_set k10 11 q11
  exact k11
theorem st12_below {B : Nat} {w0 W : World} {g : Nat} {q0 q1 q2 q3 q4 q5 q6 q7 q8 q9 q10 q11 : Value} (h : Below B w0 W) (hg : B ≤ g) : Below B w0 (st12 W g q0 q1 q2 q3 q4 q5 q6 q7 q8 q9 q10 q11) :=
  Below.setCell (Below.setCell (Below.setCell (Below.setCell (Below.setCell (Below.setCell (Below.setCell (Below.setCell (Below.setCell (Below.setCell (Below.setCell (Below.setCell (h) (p := ⟨g, 0, none⟩) hg q0) (p := ⟨g, 1, none⟩) hg q1) (p := ⟨g, 2, none⟩) hg q2) (p := ⟨g, 3, none⟩) hg q3) (p := ⟨g, 4, none⟩) hg q4) (p := ⟨g, 5, none⟩) hg q5) (p := ⟨g, 6, none⟩) hg q6) (p := ⟨g, 7, none⟩) hg q7) (p := ⟨g, 8, none⟩) hg q8) (p := ⟨g, 9, none⟩) hg q9) (p := ⟨g, 10, none⟩) hg q10) (p := ⟨g, 11, none⟩) hg q11
theorem z12_of {W : World} {g : Nat} {te : TypeId} {v0 v1 v2 v3 v4 v5 v6 v7 v8 v9 v10 v11 : Value} (h : Blk W g te #[v0, v1, v2, v3, v4, v5, v6, v7, v8, v9, v10, v11]) : W.cell? ⟨g, 0, none⟩ = some v0 ∧ W.cell? ⟨g, 1, none⟩ = some v1 ∧ W.cell? ⟨g, 2, none⟩ = some v2 ∧ W.cell? ⟨g, 3, none⟩ = some v3 ∧ W.cell? ⟨g, 4, none⟩ = some v4 ∧ W.cell? ⟨g, 5, none⟩ = some v5 ∧ W.cell? ⟨g, 6, none⟩ = some v6 ∧ W.cell? ⟨g, 7, none⟩ = some v7 ∧ W.cell? ⟨g, 8, none⟩ = some v8 ∧ W.cell? ⟨g, 9, none⟩ = some v9 ∧ W.cell? ⟨g, 10, none⟩ = some v10 ∧ W.cell? ⟨g, 11, none⟩ = some v11 ∧ W.frozen? ⟨g, 0, none⟩ = false ∧ W.frozen? ⟨g, 1, none⟩ = false ∧ W.frozen? ⟨g, 2, none⟩ = false ∧ W.frozen? ⟨g, 3, none⟩ = false ∧ W.frozen? ⟨g, 4, none⟩ = false ∧ W.frozen? ⟨g, 5, none⟩ = false ∧ W.frozen? ⟨g, 6, none⟩ = false ∧ W.frozen? ⟨g, 7, none⟩ = false ∧ W.frozen? ⟨g, 8, none⟩ = false ∧ W.frozen? ⟨g, 9, none⟩ = false ∧ W.frozen? ⟨g, 10, none⟩ = false ∧ W.frozen? ⟨g, 11, none⟩ = false :=
  ⟨h.cell 0, h.cell 1, h.cell 2, h.cell 3, h.cell 4, h.cell 5, h.cell 6, h.cell 7, h.cell 8, h.cell 9, h.cell 10, h.cell 11, h.thaw 0, h.thaw 1, h.thaw 2, h.thaw 3, h.thaw 4, h.thaw 5, h.thaw 6, h.thaw 7, h.thaw 8, h.thaw 9, h.thaw 10, h.thaw 11⟩
end Wfi
namespace Wto
open CrdC Rr4 Rul3 Wrt St7 Rul6 Wfi
theorem to_any (m : M) (w : World) : Calls Tryz.prog 13 #[mvl m] w (MadeM m w) := by
  obtain ⟨k, a, s, x, p, q, n, t, i, y, z, v⟩ := m
  show Calls Tryz.prog 13 #[.agg #[.int .i64 k, .int .i64 a, .int .i64 s, .bool x, .int .i64 p, .int .i64 q, .int .i64 n, .int .i64 t, .int .i64 i, .int .i64 y, .int .i64 z, .int .i64 v]] w (MadeM ⟨k, a, s, x, p, q, n, t, i, y, z, v⟩ w)
  have b0 : Hid (Below w.heap.size w ((w.alloc (.cells #[.int .i64 k, .int .i64 a, .int .i64 s, .bool x, .int .i64 p, .int .i64 q, .int .i64 n, .int .i64 t, .int .i64 i, .int .i64 y, .int .i64 z, .int .i64 v] 30)).alloc (.cells #[.int .i64 0, .int .i64 0, .int .i64 0, .bool false, .int .i64 0, .int .i64 0, .int .i64 0, .int .i64 0, .int .i64 0, .int .i64 0, .int .i64 0, .int .i64 0] 53))) := ((Below.refl _ _).alloc (Nat.le_refl _) _).alloc (by simp) _
  have k0 : Hid (Blk ((w.alloc (.cells #[.int .i64 k, .int .i64 a, .int .i64 s, .bool x, .int .i64 p, .int .i64 q, .int .i64 n, .int .i64 t, .int .i64 i, .int .i64 y, .int .i64 z, .int .i64 v] 30)).alloc (.cells #[.int .i64 0, .int .i64 0, .int .i64 0, .bool false, .int .i64 0, .int .i64 0, .int .i64 0, .int .i64 0, .int .i64 0, .int .i64 0, .int .i64 0, .int .i64 0] 53)) w.heap.size 30 #[.int .i64 k, .int .i64 a, .int .i64 s, .bool x, .int .i64 p, .int .i64 q, .int .i64 n, .int .i64 t, .int .i64 i, .int .i64 y, .int .i64 z, .int .i64 v]) := (Blk.fresh w _ _).alloc _
  have zB : Hid (Blk ((w.alloc (.cells #[.int .i64 k, .int .i64 a, .int .i64 s, .bool x, .int .i64 p, .int .i64 q, .int .i64 n, .int .i64 t, .int .i64 i, .int .i64 y, .int .i64 z, .int .i64 v] 30)).alloc (.cells #[.int .i64 0, .int .i64 0, .int .i64 0, .bool false, .int .i64 0, .int .i64 0, .int .i64 0, .int .i64 0, .int .i64 0, .int .i64 0, .int .i64 0, .int .i64 0] 53)) (w.heap.size + 1) 53 #[.int .i64 0, .int .i64 0, .int .i64 0, .bool false, .int .i64 0, .int .i64 0, .int .i64 0, .int .i64 0, .int .i64 0, .int .i64 0, .int .i64 0, .int .i64 0]) := blk_at (by simp)
  go_enter Tryz.func13, Tryz.ntmps13
  go_upto_region 1 with fail
  generalize ((w.alloc (.cells #[.int .i64 k, .int .i64 a, .int .i64 s, .bool x, .int .i64 p, .int .i64 q, .int .i64 n, .int .i64 t, .int .i64 i, .int .i64 y, .int .i64 z, .int .i64 v] 30)).alloc (.cells #[.int .i64 0, .int .i64 0, .int .i64 0, .bool false, .int .i64 0, .int .i64 0, .int .i64 0, .int .i64 0, .int .i64 0, .int .i64 0, .int .i64 0, .int .i64 0] 53)) = w0 at b0 k0 zB ⊢
  have hg : Hid (w.heap.size ≤ w.heap.size + 1) := by show _ ≤ _; omega
  have n1 : w.heap.size ≠ w.heap.size + 1 := by omega
  have n2 : w.heap.size + 1 ≠ w.heap.size := by omega
  generalize w.heap.size + 1 = gR at zB hg n1 n2 ⊢
  generalize hgM : w.heap.size = gM at k0 n1 n2 ⊢
  clear hgM
  have s0 : w0.cell? ⟨gM, 0, none⟩ = some (.int .i64 k) ∧ w0.cell? ⟨gM, 1, none⟩ = some (.int .i64 a) ∧ w0.cell? ⟨gM, 2, none⟩ = some (.int .i64 s) ∧ w0.cell? ⟨gM, 3, none⟩ = some (.bool x) ∧ w0.cell? ⟨gM, 4, none⟩ = some (.int .i64 p) ∧ w0.cell? ⟨gM, 5, none⟩ = some (.int .i64 q) ∧ w0.cell? ⟨gM, 6, none⟩ = some (.int .i64 n) ∧ w0.cell? ⟨gM, 7, none⟩ = some (.int .i64 t) ∧ w0.cell? ⟨gM, 8, none⟩ = some (.int .i64 i) ∧ w0.cell? ⟨gM, 9, none⟩ = some (.int .i64 y) ∧ w0.cell? ⟨gM, 10, none⟩ = some (.int .i64 z) ∧ w0.cell? ⟨gM, 11, none⟩ = some (.int .i64 v) := c12_of k0.out
  obtain ⟨z0, z1, z2, z3, z4, z5, z6, z7, z8, z9, z10, z11, y0, y1, y2, y3, y4, y5, y6, y7, y8, y9, y10, y11⟩ := z12_of zB.out
  go_region_held3 (fun w' => w'.cell? ⟨gM, 0, none⟩ = some (.int .i64 k) ∧ w'.cell? ⟨gM, 1, none⟩ = some (.int .i64 a) ∧ w'.cell? ⟨gM, 2, none⟩ = some (.int .i64 s) ∧ w'.cell? ⟨gM, 3, none⟩ = some (.bool x) ∧ w'.cell? ⟨gM, 4, none⟩ = some (.int .i64 p) ∧ w'.cell? ⟨gM, 5, none⟩ = some (.int .i64 q) ∧ w'.cell? ⟨gM, 6, none⟩ = some (.int .i64 n) ∧ w'.cell? ⟨gM, 7, none⟩ = some (.int .i64 t) ∧ w'.cell? ⟨gM, 8, none⟩ = some (.int .i64 i) ∧ w'.cell? ⟨gM, 9, none⟩ = some (.int .i64 y) ∧ w'.cell? ⟨gM, 10, none⟩ = some (.int .i64 z) ∧ w'.cell? ⟨gM, 11, none⟩ = some (.int .i64 v))
    (first | go_keep | (with_reducible assumption) | (exact q5))
    (first | (go_at_call 22; refine (order_any a s x p q n t _).mono ?_; rintro e w5 ⟨rfl, hb5⟩; have B5 : Hid (Below w.heap.size w w5) := below_step b0.out.drew hb5; have q5 : w5.cell? ⟨gM, 0, none⟩ = some (.int .i64 k) ∧ w5.cell? ⟨gM, 1, none⟩ = some (.int .i64 a) ∧ w5.cell? ⟨gM, 2, none⟩ = some (.int .i64 s) ∧ w5.cell? ⟨gM, 3, none⟩ = some (.bool x) ∧ w5.cell? ⟨gM, 4, none⟩ = some (.int .i64 p) ∧ w5.cell? ⟨gM, 5, none⟩ = some (.int .i64 q) ∧ w5.cell? ⟨gM, 6, none⟩ = some (.int .i64 n) ∧ w5.cell? ⟨gM, 7, none⟩ = some (.int .i64 t) ∧ w5.cell? ⟨gM, 8, none⟩ = some (.int .i64 i) ∧ w5.cell? ⟨gM, 9, none⟩ = some (.int .i64 y) ∧ w5.cell? ⟨gM, 10, none⟩ = some (.int .i64 z) ∧ w5.cell? ⟨gM, 11, none⟩ = some (.int .i64 v) := c12_of (Blk.below' (show Blk w0.drew gM 30 #[.int .i64 k, .int .i64 a, .int .i64 s, .bool x, .int .i64 p, .int .i64 q, .int .i64 n, .int .i64 t, .int .i64 i, .int .i64 y, .int .i64 z, .int .i64 v] from k0.out) hb5); have Z5 : Hid (Blk w5 gR 53 #[.int .i64 0, .int .i64 0, .int .i64 0, .bool false, .int .i64 0, .int .i64 0, .int .i64 0, .int .i64 0, .int .i64 0, .int .i64 0, .int .i64 0, .int .i64 0]) := Blk.below' (show Blk w0.drew gR 53 #[.int .i64 0, .int .i64 0, .int .i64 0, .bool false, .int .i64 0, .int .i64 0, .int .i64 0, .int .i64 0, .int .i64 0, .int .i64 0, .int .i64 0, .int .i64 0] from zB.out) hb5; have ⟨x0, x1, x2, x3, x4, x5, x6, x7, x8, x9, x10, x11, t0, t1, t2, t3, t4, t5, t6, t7, t8, t9, t10, t11⟩ := z12_of Z5.out))
  have f3 : Blk (st12 w5 gR (.int .i64 k) (.int .i64 a) (.int .i64 s) (.bool x) (.int .i64 p) (.int .i64 q) (.int .i64 n) (.int .i64 t) (.int .i64 i) (.int .i64 y) (.int .i64 z) (.int .i64 v)) gR 53 #[.int .i64 k, .int .i64 a, .int .i64 s, .bool x, .int .i64 p, .int .i64 q, .int .i64 n, .int .i64 t, .int .i64 i, .int .i64 y, .int .i64 z, .int .i64 v] := st12_blk Z5.out
  have hfin : MadeM ⟨k, a, s, x, p, q, n, t, i, y, z, v⟩ w (.returned (.agg #[.int .i64 k, .int .i64 a, .int .i64 s, .bool x, .int .i64 p, .int .i64 q, .int .i64 n, .int .i64 t, .int .i64 i, .int .i64 y, .int .i64 z, .int .i64 v])) (st12 w5 gR (.int .i64 k) (.int .i64 a) (.int .i64 s) (.bool x) (.int .i64 p) (.int .i64 q) (.int .i64 n) (.int .i64 t) (.int .i64 i) (.int .i64 y) (.int .i64 z) (.int .i64 v)) := ⟨rfl, st12_below B5.out hg.out⟩
  go_wp2_with fail
  obtain ⟨d0, d1, d2, d3, d4, d5, d6, d7, d8, d9, d10, d11⟩ := c12_of f3
  unfold st12 at d0 d1 d2 d3 d4 d5 d6 d7 d8 d9 d10 d11 hfin
  exact bodyPost_ret (v := .agg #[.int .i64 k, .int .i64 a, .int .i64 s, .bool x, .int .i64 p, .int .i64 q, .int .i64 n, .int .i64 t, .int .i64 i, .int .i64 y, .int .i64 z, .int .i64 v]) (by simp [results, Tryz.results13, go_sem, d0, d1, d2, d3, d4, d5, d6, d7, d8, d9, d10, d11]) rfl hfin
end Wto
end Go.Proofs.YtaeddnjjeholgaaGreat
