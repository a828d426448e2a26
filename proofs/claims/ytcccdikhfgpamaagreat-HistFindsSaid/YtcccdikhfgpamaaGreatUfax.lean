/- Texts side by side. -/
import Derived.Laws.StructEq
import Derived.Test.YtcccdikhfgpamaaGreatUfaw
set_option linter.unusedVariables false
set_option linter.unusedSimpArgs false
set_option maxRecDepth 100000
set_option maxHeartbeats 16000000
namespace Go.Proofs.YtcccdikhfgpamaaGreat
open Kap Go.ChangeShapes Go.WideShapes Go.ChangeAt Go.RowKit Mem Tre Ref3 Law3 Fix3 CrdB Wpl
namespace Wmr
theorem eqP(w:World)(m n:M):(binOp .eql 77 (mvl m) (mvl n)).run Tryz.prog w= .ok (.bool (eqM m n)) w:=by
 have b:Tryz.prog.stoodInHeld 77=false:=by kernel_rfl
 have c:Tryz.prog.stoodInHeld 75=false:=by kernel_rfl
 have u1:Tryz.prog.underlying 77=some (.struct (Tryz.prog.fieldsOf 77)):=by kernel_rfl
 have u2:Tryz.prog.underlying 75=some (.struct (Tryz.prog.fieldsOf 75)):=by kernel_rfl
 unfold mvl;rw[run_eql_struct,run_equalIn_agg _ _ _ _ _ u1 b];simp only[Program.fieldsOf,Tryz.underlying77];simp[Op.eqFields,go_sem,Program.fieldsOf,Tryz.underlying77,Tryz.underlying75,Tryz.underlying3,Tryz.underlying2,Tryz.underlying4,part];by_cases e0:m.k=n.k
 case neg=>rw[if_neg e0];simp[eqM,e0]
 rw[if_pos e0];by_cases e1:m.a=n.a
 case neg=>rw[if_neg e1];simp[eqM,e1]
 rw[if_pos e1];by_cases e2:m.s=n.s
 case neg=>rw[if_neg e2];simp[eqM,e2]
 rw[if_pos e2];by_cases e3:m.x=n.x
 case neg=>rw[if_neg e3];simp[eqM,e3]
 rw[if_pos e3];by_cases e4:m.p=n.p
 case neg=>rw[if_neg e4];simp[eqM,e4]
 rw[if_pos e4];by_cases e5:m.q=n.q
 case neg=>rw[if_neg e5];simp[eqM,e5]
 rw[if_pos e5];by_cases e6:m.n=n.n
 case neg=>rw[if_neg e6];simp[eqM,e6]
 rw[if_pos e6];by_cases e7:m.t=n.t
 case neg=>rw[if_neg e7];simp[eqM,e7]
 rw[if_pos e7];by_cases e8:m.i=n.i
 case neg=>rw[if_neg e8];simp[eqM,e8]
 rw[if_pos e8];by_cases e9:m.y=n.y
 case neg=>rw[if_neg e9];simp[eqM,e9]
 rw[if_pos e9];by_cases e10:m.z=n.z
 case neg=>rw[if_neg e10];simp[eqM,e10]
 rw[if_pos e10];by_cases e11:m.v=n.v
 case neg=>rw[if_neg e11];simp[eqM,e11]
 rw[if_pos e11];simp[eqM,e0,e1,e2,e3,e4,e5,e6,e7,e8,e9,e10,e11]
theorem eqP12(k1 a1 s1 p1 q1 n1 t1 i1 y1 z1 v1 k2 a2 s2 p2 q2 n2 t2 i2 y2 z2 v2:Int)(x1 x2:Bool)(w:World):(binOp .eql 77 (.agg #[.int .i64 k1,.int .i64 a1,.int .i64 s1,.bool x1,.int .i64 p1,.int .i64 q1,.int .i64 n1,.int .i64 t1,.int .i64 i1,.int .i64 y1,.int .i64 z1,.int .i64 v1]) (.agg #[.int .i64 k2,.int .i64 a2,.int .i64 s2,.bool x2,.int .i64 p2,.int .i64 q2,.int .i64 n2,.int .i64 t2,.int .i64 i2,.int .i64 y2,.int .i64 z2,.int .i64 v2])).run Tryz.prog w= .ok (.bool (eqM ⟨k1,a1,s1,x1,p1,q1,n1,t1,i1,y1,z1,v1⟩ ⟨k2,a2,s2,x2,p2,q2,n2,t2,i2,y2,z2,v2⟩)) w:=
 eqP w ⟨k1,a1,s1,x1,p1,q1,n1,t1,i1,y1,z1,v1⟩ ⟨k2,a2,s2,x2,p2,q2,n2,t2,i2,y2,z2,v2⟩
theorem eqQ(w:World)(m n:M):(binOp .eql 57 (mvl m) (mvl n)).run Tryz.prog w= .ok (.bool (eqM m n)) w:=by
 have b:Tryz.prog.stoodInHeld 57=false:=by kernel_rfl
 have c:Tryz.prog.stoodInHeld 55=false:=by kernel_rfl
 have u1:Tryz.prog.underlying 57=some (.struct (Tryz.prog.fieldsOf 57)):=by kernel_rfl
 have u2:Tryz.prog.underlying 55=some (.struct (Tryz.prog.fieldsOf 55)):=by kernel_rfl
 unfold mvl;rw[run_eql_struct,run_equalIn_agg _ _ _ _ _ u1 b];simp only[Program.fieldsOf,Tryz.underlying57];simp[Op.eqFields,go_sem,Program.fieldsOf,Tryz.underlying57,Tryz.underlying55,Tryz.underlying3,Tryz.underlying2,Tryz.underlying4,part];by_cases e0:m.k=n.k
 case neg=>rw[if_neg e0];simp[eqM,e0]
 rw[if_pos e0];by_cases e1:m.a=n.a
 case neg=>rw[if_neg e1];simp[eqM,e1]
 rw[if_pos e1];by_cases e2:m.s=n.s
 case neg=>rw[if_neg e2];simp[eqM,e2]
 rw[if_pos e2];by_cases e3:m.x=n.x
 case neg=>rw[if_neg e3];simp[eqM,e3]
 rw[if_pos e3];by_cases e4:m.p=n.p
 case neg=>rw[if_neg e4];simp[eqM,e4]
 rw[if_pos e4];by_cases e5:m.q=n.q
 case neg=>rw[if_neg e5];simp[eqM,e5]
 rw[if_pos e5];by_cases e6:m.n=n.n
 case neg=>rw[if_neg e6];simp[eqM,e6]
 rw[if_pos e6];by_cases e7:m.t=n.t
 case neg=>rw[if_neg e7];simp[eqM,e7]
 rw[if_pos e7];by_cases e8:m.i=n.i
 case neg=>rw[if_neg e8];simp[eqM,e8]
 rw[if_pos e8];by_cases e9:m.y=n.y
 case neg=>rw[if_neg e9];simp[eqM,e9]
 rw[if_pos e9];by_cases e10:m.z=n.z
 case neg=>rw[if_neg e10];simp[eqM,e10]
 rw[if_pos e10];by_cases e11:m.v=n.v
 case neg=>rw[if_neg e11];simp[eqM,e11]
 rw[if_pos e11];simp[eqM,e0,e1,e2,e3,e4,e5,e6,e7,e8,e9,e10,e11]
theorem eqQ12(k1 a1 s1 p1 q1 n1 t1 i1 y1 z1 v1 k2 a2 s2 p2 q2 n2 t2 i2 y2 z2 v2:Int)(x1 x2:Bool)(w:World):(binOp .eql 57 (.agg #[.int .i64 k1,.int .i64 a1,.int .i64 s1,.bool x1,.int .i64 p1,.int .i64 q1,.int .i64 n1,.int .i64 t1,.int .i64 i1,.int .i64 y1,.int .i64 z1,.int .i64 v1]) (.agg #[.int .i64 k2,.int .i64 a2,.int .i64 s2,.bool x2,.int .i64 p2,.int .i64 q2,.int .i64 n2,.int .i64 t2,.int .i64 i2,.int .i64 y2,.int .i64 z2,.int .i64 v2])).run Tryz.prog w= .ok (.bool (eqM ⟨k1,a1,s1,x1,p1,q1,n1,t1,i1,y1,z1,v1⟩ ⟨k2,a2,s2,x2,p2,q2,n2,t2,i2,y2,z2,v2⟩)) w:=
 eqQ w ⟨k1,a1,s1,x1,p1,q1,n1,t1,i1,y1,z1,v1⟩ ⟨k2,a2,s2,x2,p2,q2,n2,t2,i2,y2,z2,v2⟩
def MadeM(m:M)(w:World)(e:Ending)(w':World):Prop:=e= .returned (mvl m)∧Below w.heap.size w w'
theorem alone_any(m:M)(w:World):Calls Tryz.prog 89 #[mvl m] w (MadeM (alM m) w):=by
 obtain⟨k,a,s,x,p,q,n,t,i,y,z,v⟩:=m;show Calls Tryz.prog 89 #[.agg #[.int .i64 k,.int .i64 a,.int .i64 s,.bool x,.int .i64 p,.int .i64 q,.int .i64 n,.int .i64 t,.int .i64 i,.int .i64 y,.int .i64 z,.int .i64 v]] w (MadeM (alM ⟨k,a,s,x,p,q,n,t,i,y,z,v⟩) w);by_cases k0:k=0
 ·have d:=beq_iff_eq.2 k0;have b:alM ⟨k,a,s,x,p,q,n,t,i,y,z,v⟩=⟨k,a,s,x,p,q,n,t,0,0,0,0⟩:=by unfold alM;rw[if_pos k0];rfl
  rw[b]
  go_enter Tryz.func89,Tryz.ntmps89
  go_wp2_with fail
  exact bodyPost_ret (v:= .agg #[ι k,ι a,ι s,.bool x,ι p,ι q,ι n,ι t,ι 0,ι 0,ι 0,ι 0]) (by simp[results,Tryz.results89,go_sem,k0]) rfl ⟨rfl,(ψ.alloc τ _).alloc (by simp) _⟩
 ·have d:=beq_eq_false_iff_ne.2 k0;by_cases k1:k=1
  ·have e:=beq_iff_eq.2 k1;have b:alM ⟨k,a,s,x,p,q,n,t,i,y,z,v⟩=⟨k,0,0,false,0,0,0,0,i,0,0,0⟩:=by unfold alM;rw[if_neg k0,if_pos (.inl k1)];rfl
   rw[b]
   go_enter Tryz.func89,Tryz.ntmps89
   go_wp2_with fail
   exact bodyPost_ret (v:= .agg #[ι k,ι 0,ι 0,.bool false,ι 0,ι 0,ι 0,ι 0,ι i,ι 0,ι 0,ι 0]) (by simp[results,Tryz.results89,go_sem,k1]) rfl ⟨rfl,(ψ.alloc τ _).alloc (by simp) _⟩
  ·have e:=beq_eq_false_iff_ne.2 k1;by_cases k3:k=3
   ·have f:=beq_iff_eq.2 k3;have b:alM ⟨k,a,s,x,p,q,n,t,i,y,z,v⟩=⟨k,0,0,false,0,0,0,0,i,0,0,0⟩:=by unfold alM;rw[if_neg k0,if_pos (.inr k3)];rfl
    rw[b]
    go_enter Tryz.func89,Tryz.ntmps89
    go_wp2_with fail
    exact bodyPost_ret (v:= .agg #[ι k,ι 0,ι 0,.bool false,ι 0,ι 0,ι 0,ι 0,ι i,ι 0,ι 0,ι 0]) (by simp[results,Tryz.results89,go_sem,k3]) rfl ⟨rfl,(ψ.alloc τ _).alloc (by simp) _⟩
   ·have f:=beq_eq_false_iff_ne.2 k3;have c: ¬(k=1∨k=3):=by omega
    by_cases k2:k=2
    ·have g:=beq_iff_eq.2 k2;have b:alM ⟨k,a,s,x,p,q,n,t,i,y,z,v⟩=⟨k,0,0,false,0,0,0,0,i,y,0,0⟩:=by unfold alM;rw[if_neg k0,if_neg c,if_pos k2];rfl
     rw[b]
     go_enter Tryz.func89,Tryz.ntmps89
     go_wp2_with fail
     exact bodyPost_ret (v:= .agg #[ι k,ι 0,ι 0,.bool false,ι 0,ι 0,ι 0,ι 0,ι i,ι y,ι 0,ι 0]) (by simp[results,Tryz.results89,go_sem,k2]) rfl ⟨rfl,(ψ.alloc τ _).alloc (by simp) _⟩
    ·have g:=beq_eq_false_iff_ne.2 k2;by_cases k6:k=6
     ·have h:=beq_iff_eq.2 k6;have b:alM ⟨k,a,s,x,p,q,n,t,i,y,z,v⟩=⟨k,0,0,false,0,0,0,0,0,0,z,v⟩:=by unfold alM;rw[if_neg k0,if_neg c,if_neg k2,if_pos k6];rfl
      rw[b]
      go_enter Tryz.func89,Tryz.ntmps89
      go_wp2_with fail
      exact bodyPost_ret (v:= .agg #[ι k,ι 0,ι 0,.bool false,ι 0,ι 0,ι 0,ι 0,ι 0,ι 0,ι z,ι v]) (by simp[results,Tryz.results89,go_sem,k6]) rfl ⟨rfl,(ψ.alloc τ _).alloc (by simp) _⟩
     ·have h:=beq_eq_false_iff_ne.2 k6;have b:alM ⟨k,a,s,x,p,q,n,t,i,y,z,v⟩=⟨k,0,0,false,0,0,0,0,0,0,0,0⟩:=by unfold alM;rw[if_neg k0,if_neg c,if_neg k2,if_neg k6];rfl
      rw[b]
      go_enter Tryz.func89,Tryz.ntmps89
      go_wp2_with fail
      exact bodyPost_ret (v:= .agg #[ι k,ι 0,ι 0,.bool false,ι 0,ι 0,ι 0,ι 0,ι 0,ι 0,ι 0,ι 0]) (by simp[results,Tryz.results89,go_sem,k0]) rfl ⟨rfl,(ψ.alloc τ _).alloc (by simp) _⟩
theorem bare_any(m:M)(w:World):Calls Tryz.prog 66 #[mvl m] w (MadeM (alM m) w):=by
 obtain⟨k,a,s,x,p,q,n,t,i,y,z,v⟩:=m;show Calls Tryz.prog 66 #[.agg #[.int .i64 k,.int .i64 a,.int .i64 s,.bool x,.int .i64 p,.int .i64 q,.int .i64 n,.int .i64 t,.int .i64 i,.int .i64 y,.int .i64 z,.int .i64 v]] w (MadeM (alM ⟨k,a,s,x,p,q,n,t,i,y,z,v⟩) w);by_cases k0:k=0
 ·have d:=beq_iff_eq.2 k0;have b:alM ⟨k,a,s,x,p,q,n,t,i,y,z,v⟩=⟨k,a,s,x,p,q,n,t,0,0,0,0⟩:=by unfold alM;rw[if_pos k0];rfl
  rw[b]
  go_enter Tryz.func66,Tryz.ntmps66
  go_wp2_with fail
  exact bodyPost_ret (v:= .agg #[ι k,ι a,ι s,.bool x,ι p,ι q,ι n,ι t,ι 0,ι 0,ι 0,ι 0]) (by simp[results,Tryz.results66,go_sem,k0]) rfl ⟨rfl,by first|exact((ψ.alloc τ _).alloc (by simp) _).alloc (by simp<;>omega) _|exact(((ψ.alloc τ _).alloc (by simp) _).alloc (by simp<;>omega) _).drew⟩
 ·have d:=beq_eq_false_iff_ne.2 k0;by_cases k1:k=1
  ·have e:=beq_iff_eq.2 k1;have b:alM ⟨k,a,s,x,p,q,n,t,i,y,z,v⟩=⟨k,0,0,false,0,0,0,0,i,0,0,0⟩:=by unfold alM;rw[if_neg k0,if_pos (.inl k1)];rfl
   rw[b]
   go_enter Tryz.func66,Tryz.ntmps66
   go_wp2_with fail
   exact bodyPost_ret (v:= .agg #[ι k,ι 0,ι 0,.bool false,ι 0,ι 0,ι 0,ι 0,ι i,ι 0,ι 0,ι 0]) (by simp[results,Tryz.results66,go_sem,k1]) rfl ⟨rfl,by first|exact((ψ.alloc τ _).alloc (by simp) _).alloc (by simp<;>omega) _|exact(((ψ.alloc τ _).alloc (by simp) _).alloc (by simp<;>omega) _).drew⟩
  ·have e:=beq_eq_false_iff_ne.2 k1;by_cases k3:k=3
   ·have f:=beq_iff_eq.2 k3;have b:alM ⟨k,a,s,x,p,q,n,t,i,y,z,v⟩=⟨k,0,0,false,0,0,0,0,i,0,0,0⟩:=by unfold alM;rw[if_neg k0,if_pos (.inr k3)];rfl
    rw[b]
    go_enter Tryz.func66,Tryz.ntmps66
    go_wp2_with fail
    exact bodyPost_ret (v:= .agg #[ι k,ι 0,ι 0,.bool false,ι 0,ι 0,ι 0,ι 0,ι i,ι 0,ι 0,ι 0]) (by simp[results,Tryz.results66,go_sem,k3]) rfl ⟨rfl,by first|exact((ψ.alloc τ _).alloc (by simp) _).alloc (by simp<;>omega) _|exact(((ψ.alloc τ _).alloc (by simp) _).alloc (by simp<;>omega) _).drew⟩
   ·have f:=beq_eq_false_iff_ne.2 k3;have c: ¬(k=1∨k=3):=by omega
    by_cases k2:k=2
    ·have g:=beq_iff_eq.2 k2;have b:alM ⟨k,a,s,x,p,q,n,t,i,y,z,v⟩=⟨k,0,0,false,0,0,0,0,i,y,0,0⟩:=by unfold alM;rw[if_neg k0,if_neg c,if_pos k2];rfl
     rw[b]
     go_enter Tryz.func66,Tryz.ntmps66
     go_wp2_with fail
     go_region
     all_goals go_wp2_with fail
     exact bodyPost_ret (v:= .agg #[ι k,ι 0,ι 0,.bool false,ι 0,ι 0,ι 0,ι 0,ι i,ι y,ι 0,ι 0]) (by simp[results,Tryz.results66,go_sem,k2]) rfl ⟨rfl,by first|exact((ψ.alloc τ _).alloc (by simp) _).alloc (by simp<;>omega) _|exact(((ψ.alloc τ _).alloc (by simp) _).alloc (by simp<;>omega) _).drew⟩
    ·have g:=beq_eq_false_iff_ne.2 k2;by_cases k6:k=6
     ·have h:=beq_iff_eq.2 k6;have b:alM ⟨k,a,s,x,p,q,n,t,i,y,z,v⟩=⟨k,0,0,false,0,0,0,0,0,0,z,v⟩:=by unfold alM;rw[if_neg k0,if_neg c,if_neg k2,if_pos k6];rfl
      rw[b]
      go_enter Tryz.func66,Tryz.ntmps66
      go_wp2_with fail
      go_region
      all_goals go_wp2_with fail
      exact bodyPost_ret (v:= .agg #[ι k,ι 0,ι 0,.bool false,ι 0,ι 0,ι 0,ι 0,ι 0,ι 0,ι z,ι v]) (by simp[results,Tryz.results66,go_sem,k6]) rfl ⟨rfl,by first|exact((ψ.alloc τ _).alloc (by simp) _).alloc (by simp<;>omega) _|exact(((ψ.alloc τ _).alloc (by simp) _).alloc (by simp<;>omega) _).drew⟩
     ·have h:=beq_eq_false_iff_ne.2 k6;have b:alM ⟨k,a,s,x,p,q,n,t,i,y,z,v⟩=⟨k,0,0,false,0,0,0,0,0,0,0,0⟩:=by unfold alM;rw[if_neg k0,if_neg c,if_neg k2,if_neg k6];rfl
      rw[b]
      go_enter Tryz.func66,Tryz.ntmps66
      go_wp2_with fail
      exact bodyPost_ret (v:= .agg #[ι k,ι 0,ι 0,.bool false,ι 0,ι 0,ι 0,ι 0,ι 0,ι 0,ι 0,ι 0]) (by simp[results,Tryz.results66,go_sem,k0]) rfl ⟨rfl,by first|exact((ψ.alloc τ _).alloc (by simp) _).alloc (by simp<;>omega) _|exact(((ψ.alloc τ _).alloc (by simp) _).alloc (by simp<;>omega) _).drew⟩
end Wmr
namespace Wrt
open Abv Wmr
theorem wbtw_any(a n b:Int)(w:World):Calls Tryz.prog 88 #[.int .i64 a,.int .i64 n,.int .i64 b] w fun e w'=>e= .returned (.bool (decide (a≤n)&&decide (n≤b)))∧w=w':=by
 by_cases h0:a≤n
 ·have c:decide (a≤n)=true:=by simp;exact h0
  by_cases h1:n≤b
  ·have t1:decide (n≤b)=true:=by simp;exact h1
   go_enter Tryz.func88,Tryz.ntmps88
   go_wp2
   go_ret;exact⟨by first|rfl|(rw[c,t1];rfl),rfl⟩
  ·have t1:decide (n≤b)=false:=by simp;omega
   go_enter Tryz.func88,Tryz.ntmps88
   go_wp2
   go_ret;exact⟨by first|rfl|(rw[c,t1];rfl),rfl⟩
 ·have c:decide (a≤n)=false:=by simp;omega
  go_enter Tryz.func88,Tryz.ntmps88
  go_wp2
  go_ret;exact⟨by first|rfl|(rw[c];rfl),rfl⟩
theorem short_any(n:Int)(w:World):Calls Tryz.prog 67 #[.int .i64 n] w fun e w'=>e= .returned (.bool (decide (0≤n)&&decide (n≤65535)))∧w=w':=by
 by_cases h0:0≤n
 ·have a:decide (0≤n)=true:=by simp;exact h0
  by_cases h1:n≤65535
  ·have t1:decide (n≤65535)=true:=by simp;exact h1
   go_enter Tryz.func67,Tryz.ntmps67
   go_wp2
   go_ret;exact⟨by first|rfl|(rw[a,t1];rfl),rfl⟩
  ·have t1:decide (n≤65535)=false:=by simp;omega
   go_enter Tryz.func67,Tryz.ntmps67
   go_wp2
   go_ret;exact⟨by first|rfl|(rw[a,t1];rfl),rfl⟩
 ·have a:decide (0≤n)=false:=by simp;omega
  go_enter Tryz.func67,Tryz.ntmps67
  go_wp2
  go_ret;exact⟨by first|rfl|(rw[a];rfl),rfl⟩
def mn(x y:Int):Int:=if y<x then y else x
theorem mn_ge{x y:Int}:0≤mn x y↔0≤x∧0≤y:=by unfold mn;split<;>omega
theorem run_min6{P:Program}{w:World}(ats:Array TypeId)(ty:TypeId)(p q n t y v:Int):
  (Builtin.min_ ats ty #[.int .i64 p,.int .i64 q,.int .i64 n,.int .i64 t,.int .i64 y,.int .i64 v]).run P w= .ok (.int .i64 (mn (mn (mn (mn (mn p q) n) t) y) v)) w:=by
 simp[Builtin.min_,Builtin.min2,List.foldlM,Sem.run_bind,Sem.run_pure,Result.andThen,mn]<;>rfl
attribute [local go_sem] run_min6
def MadeBl(b:Bool)(w:World)(e:Ending)(w':World):Prop:=e= .returned (.bool b)∧Below w.heap.size w w'
theorem fits_any(m:M)(w:World):Calls Tryz.prog 90 #[mvl m] w (MadeBl (fitM m) w):=by
 obtain⟨k,a,s,x,p,q,n,t,i,y,z,v⟩:=m;show Calls Tryz.prog 90 #[.agg #[.int .i64 k,.int .i64 a,.int .i64 s,.bool x,.int .i64 p,.int .i64 q,.int .i64 n,.int .i64 t,.int .i64 i,.int .i64 y,.int .i64 z,.int .i64 v]] w (MadeBl (fitM ⟨k,a,s,x,p,q,n,t,i,y,z,v⟩) w);by_cases ha:0≤a∧a≤65535
 case neg=>
  have e:fitM ⟨k,a,s,x,p,q,n,t,i,y,z,v⟩=false:=by unfold fitM;simp only[decide_eq_false_iff_not];intro h;exact ha (by omega)
  rw[e];have c:(decide (0≤a)&&decide (a≤65535))=false:=by simp;omega
  go_enter Tryz.func90,Tryz.ntmps90
  go_wp2_with (go_at_call 88;refine(wbtw_any _ _ _ _).mono ?_;rintro e b ⟨rfl,rfl⟩)
  go_ret;exact⟨rfl,(ψ.alloc τ _).alloc (by simp) _⟩
 have c:(decide (0≤a)&&decide (a≤65535))=true:=by simp;omega
 by_cases hs:0≤s∧s≤65535
 case neg=>
  have e:fitM ⟨k,a,s,x,p,q,n,t,i,y,z,v⟩=false:=by unfold fitM;simp only[decide_eq_false_iff_not];intro h;exact hs (by omega)
  rw[e];have d:(decide (0≤s)&&decide (s≤65535))=false:=by simp;omega
  go_enter Tryz.func90,Tryz.ntmps90
  go_wp2_with (go_at_call 88;refine(wbtw_any _ _ _ _).mono ?_;rintro e b ⟨rfl,rfl⟩)
  go_ret;exact⟨rfl,(ψ.alloc τ _).alloc (by simp) _⟩
 have d:(decide (0≤s)&&decide (s≤65535))=true:=by simp;omega
 by_cases hz:0≤z∧z≤65535
 case neg=>
  have e:fitM ⟨k,a,s,x,p,q,n,t,i,y,z,v⟩=false:=by unfold fitM;simp only[decide_eq_false_iff_not];intro h;exact hz (by omega)
  rw[e];have f:(decide (0≤z)&&decide (z≤65535))=false:=by simp;omega
  go_enter Tryz.func90,Tryz.ntmps90
  go_wp2_with (go_at_call 88;refine(wbtw_any _ _ _ _).mono ?_;rintro e b ⟨rfl,rfl⟩)
  go_ret;exact⟨rfl,(ψ.alloc τ _).alloc (by simp) _⟩
 have f:(decide (0≤z)&&decide (z≤65535))=true:=by simp;omega
 by_cases hi:0≤i∧i≤4294967295
 case neg=>
  have e:fitM ⟨k,a,s,x,p,q,n,t,i,y,z,v⟩=false:=by unfold fitM;simp only[decide_eq_false_iff_not];intro h;exact hi (by omega)
  rw[e];have g:(decide (0≤i)&&decide (i≤4294967295))=false:=by simp;omega
  go_enter Tryz.func90,Tryz.ntmps90
  go_wp2_with (go_at_call 88;refine(wbtw_any _ _ _ _).mono ?_;rintro e b ⟨rfl,rfl⟩)
  go_ret;exact⟨rfl,(ψ.alloc τ _).alloc (by simp) _⟩
 have g:(decide (0≤i)&&decide (i≤4294967295))=true:=by simp;omega
 by_cases hm:0≤p∧0≤q∧0≤n∧0≤t∧0≤y∧0≤v
 case neg=>
  have e:fitM ⟨k,a,s,x,p,q,n,t,i,y,z,v⟩=false:=by unfold fitM;simp only[decide_eq_false_iff_not];intro h;exact hm (by omega)
  rw[e];have j:decide (0≤mn (mn (mn (mn (mn p q) n) t) y) v)=false:=by rw[decide_eq_false_iff_not];simp only[mn_ge];omega
  go_enter Tryz.func90,Tryz.ntmps90
  go_wp2_with (go_at_call 88;refine(wbtw_any _ _ _ _).mono ?_;rintro e b ⟨rfl,rfl⟩)
  go_ret;exact⟨rfl,(ψ.alloc τ _).alloc (by simp) _⟩
 have j:decide (0≤mn (mn (mn (mn (mn p q) n) t) y) v)=true:=by rw[decide_eq_true_eq];simp only[mn_ge];omega
 have e:fitM ⟨k,a,s,x,p,q,n,t,i,y,z,v⟩=true:=by unfold fitM;simp only[decide_eq_true_eq];omega
 rw[e]
 go_enter Tryz.func90,Tryz.ntmps90
 go_wp2_with (go_at_call 88;refine(wbtw_any _ _ _ _).mono ?_;rintro e b ⟨rfl,rfl⟩)
 go_ret;exact⟨rfl,(ψ.alloc τ _).alloc (by simp) _⟩
theorem c12_of{W:World}{g:Nat}{te:TypeId}{v0 v1 v2 v3 v4 v5 v6 v7 v8 v9 v10 v11:Value}(h:Blk W g te #[v0,v1,v2,v3,v4,v5,v6,v7,v8,v9,v10,v11]):W.cell? ⟨g,0,none⟩=some v0∧W.cell? ⟨g,1,none⟩=some v1∧W.cell? ⟨g,2,none⟩=some v2∧W.cell? ⟨g,3,none⟩=some v3∧W.cell? ⟨g,4,none⟩=some v4∧W.cell? ⟨g,5,none⟩=some v5∧W.cell? ⟨g,6,none⟩=some v6∧W.cell? ⟨g,7,none⟩=some v7∧W.cell? ⟨g,8,none⟩=some v8∧W.cell? ⟨g,9,none⟩=some v9∧W.cell? ⟨g,10,none⟩=some v10∧W.cell? ⟨g,11,none⟩=some v11:=
 ⟨h.cell 0,h.cell 1,h.cell 2,h.cell 3,h.cell 4,h.cell 5,h.cell 6,h.cell 7,h.cell 8,h.cell 9,h.cell 10,h.cell 11⟩
attribute [local go_sem high] eqP12
theorem mvl_mk(m:M):mvl m= .agg #[.int .i64 m.k,.int .i64 m.a,.int .i64 m.s,.bool m.x,.int .i64 m.p,.int .i64 m.q,.int .i64 m.n,.int .i64 m.t,.int .i64 m.i,.int .i64 m.y,.int .i64 m.z,.int .i64 m.v]:=rfl
theorem right_eq(m n:M)(h:alM m=n):rightM m=((decide (0≤m.k)&&decide (m.k≤6))&&(eqM m n&&fitM m)):=by unfold rightM;rw[h]
theorem right_any(m:M)(w:World):Calls Tryz.prog 54 #[mvl m] w (MadeBl (rightM m) w):=by
 obtain⟨k,a,s,x,p,q,n,t,i,y,z,v⟩:=m;show Calls Tryz.prog 54 #[.agg #[.int .i64 k,.int .i64 a,.int .i64 s,.bool x,.int .i64 p,.int .i64 q,.int .i64 n,.int .i64 t,.int .i64 i,.int .i64 y,.int .i64 z,.int .i64 v]] w (MadeBl (rightM ⟨k,a,s,x,p,q,n,t,i,y,z,v⟩) w);generalize hA:alM ⟨k,a,s,x,p,q,n,t,i,y,z,v⟩=A;obtain⟨I,J,K,L,O,l,P,t2,Q,R,S,T⟩:=A;have r:rightM ⟨k,a,s,x,p,q,n,t,i,y,z,v⟩=((decide (0≤k)&&decide (k≤6))&&(eqM ⟨k,a,s,x,p,q,n,t,i,y,z,v⟩ ⟨I,J,K,L,O,l,P,t2,Q,R,S,T⟩&&fitM ⟨k,a,s,x,p,q,n,t,i,y,z,v⟩)):=right_eq _ _ hA;generalize h0:(decide ((0:Int)≤k)&&decide (k≤6))=U at r;generalize h1:eqM ⟨k,a,s,x,p,q,n,t,i,y,z,v⟩ ⟨I,J,K,L,O,l,P,t2,Q,R,S,T⟩=V at r;generalize G:fitM ⟨k,a,s,x,p,q,n,t,i,y,z,v⟩=Z at r;rw[r];clear r;have F:=κ ((β w (.cells (vM k a s x p q n t i y z v) 77)).drew);have o:Hid (Blk (w.alloc (.cells (vM k a s x p q n t i y z v) 77)).drew w.heap.size 77 (vM k a s x p q n t i y z v)):=Blk.fresh w _ _
 go_enter Tryz.func54,Tryz.ntmps54
 go_upto_region 1 with fail
 have W:(w.alloc (.cells (vM k a s x p q n t i y z v) 77)).cell? (α w.heap.size 0)=some (ι k)∧(w.alloc (.cells (vM k a s x p q n t i y z v) 77)).cell? (α w.heap.size 1)=some (ι a)∧(w.alloc (.cells (vM k a s x p q n t i y z v) 77)).cell? (α w.heap.size 2)=some (ι s)∧(w.alloc (.cells (vM k a s x p q n t i y z v) 77)).cell? (α w.heap.size 3)=some (.bool x)∧(w.alloc (.cells (vM k a s x p q n t i y z v) 77)).cell? (α w.heap.size 4)=some (ι p)∧(w.alloc (.cells (vM k a s x p q n t i y z v) 77)).cell? (α w.heap.size 5)=some (ι q)∧(w.alloc (.cells (vM k a s x p q n t i y z v) 77)).cell? (α w.heap.size 6)=some (ι n)∧(w.alloc (.cells (vM k a s x p q n t i y z v) 77)).cell? (α w.heap.size 7)=some (ι t)∧(w.alloc (.cells (vM k a s x p q n t i y z v) 77)).cell? (α w.heap.size 8)=some (ι i)∧(w.alloc (.cells (vM k a s x p q n t i y z v) 77)).cell? (α w.heap.size 9)=some (ι y)∧(w.alloc (.cells (vM k a s x p q n t i y z v) 77)).cell? (α w.heap.size 10)=some (ι z)∧(w.alloc (.cells (vM k a s x p q n t i y z v) 77)).cell? (α w.heap.size 11)=some (ι v):=c12_of o.o;generalize w.alloc (.cells (vM k a s x p q n t i y z v) 77)=w0 at F o W ⊢;generalize w.heap.size=b at o W ⊢;by_cases hc0:U=true
 case neg=>
  obtain rfl:U=false:=by simpa using hc0
  go_region_with (first
    |(go_at_call 88;refine(wbtw_any _ _ _ _).mono ?_;rintro e X ⟨rfl,rfl⟩)
    |(go_at_call 89;refine(alone_any ⟨k,a,s,x,p,q,n,t,i,y,z,v⟩ _).mono ?_;rintro e g ⟨rfl,d⟩;rw[hA,mvl_mk];have C:Hid (Below w.heap.size w g):=below_step F.o d;have j:Hid (Blk g b 77 #[.int .i64 k,.int .i64 a,.int .i64 s,.bool x,.int .i64 p,.int .i64 q,.int .i64 n,.int .i64 t,.int .i64 i,.int .i64 y,.int .i64 z,.int .i64 v]):=Blk.below' o.o d;have l:g.cell? ⟨b,0,none⟩=some (.int .i64 k)∧g.cell? ⟨b,1,none⟩=some (.int .i64 a)∧g.cell? ⟨b,2,none⟩=some (.int .i64 s)∧g.cell? ⟨b,3,none⟩=some (.bool x)∧g.cell? ⟨b,4,none⟩=some (.int .i64 p)∧g.cell? ⟨b,5,none⟩=some (.int .i64 q)∧g.cell? ⟨b,6,none⟩=some (.int .i64 n)∧g.cell? ⟨b,7,none⟩=some (.int .i64 t)∧g.cell? ⟨b,8,none⟩=some (.int .i64 i)∧g.cell? ⟨b,9,none⟩=some (.int .i64 y)∧g.cell? ⟨b,10,none⟩=some (.int .i64 z)∧g.cell? ⟨b,11,none⟩=some (.int .i64 v):=c12_of j.o)
    |(go_at_call 90;refine(fits_any ⟨k,a,s,x,p,q,n,t,i,y,z,v⟩ _).mono ?_;rintro e c ⟨rfl,f⟩;rw[G];have Y:Hid (Below w.heap.size w c):=below_step C.o f;have E:Hid (Blk c b 77 #[.int .i64 k,.int .i64 a,.int .i64 s,.bool x,.int .i64 p,.int .i64 q,.int .i64 n,.int .i64 t,.int .i64 i,.int .i64 y,.int .i64 z,.int .i64 v]):=Blk.below' j.o f;have H:c.cell? ⟨b,0,none⟩=some (.int .i64 k)∧c.cell? ⟨b,1,none⟩=some (.int .i64 a)∧c.cell? ⟨b,2,none⟩=some (.int .i64 s)∧c.cell? ⟨b,3,none⟩=some (.bool x)∧c.cell? ⟨b,4,none⟩=some (.int .i64 p)∧c.cell? ⟨b,5,none⟩=some (.int .i64 q)∧c.cell? ⟨b,6,none⟩=some (.int .i64 n)∧c.cell? ⟨b,7,none⟩=some (.int .i64 t)∧c.cell? ⟨b,8,none⟩=some (.int .i64 i)∧c.cell? ⟨b,9,none⟩=some (.int .i64 y)∧c.cell? ⟨b,10,none⟩=some (.int .i64 z)∧c.cell? ⟨b,11,none⟩=some (.int .i64 v):=c12_of E.o))
  all_goals
   go_wp2_with fail
   go_ret;exact⟨rfl,(Hid.o (by assumption))⟩
 subst hc0;by_cases hc1:V=true
 case neg=>
  obtain rfl:V=false:=by simpa using hc1
  go_region_with (first
    |(go_at_call 88;refine(wbtw_any _ _ _ _).mono ?_;rintro e X ⟨rfl,rfl⟩)
    |(go_at_call 89;refine(alone_any ⟨k,a,s,x,p,q,n,t,i,y,z,v⟩ _).mono ?_;rintro e g ⟨rfl,d⟩;rw[hA,mvl_mk];have C:=κ (below_step F.o d);have j:=κ (Blk.below' o.o d);have l:=c12_of j.o)
    |(go_at_call 90;refine(fits_any ⟨k,a,s,x,p,q,n,t,i,y,z,v⟩ _).mono ?_;rintro e c ⟨rfl,f⟩;rw[G];have Y:Hid (Below w.heap.size w c):=below_step C.o f;have E:Hid (Blk c b 77 #[.int .i64 k,.int .i64 a,.int .i64 s,.bool x,.int .i64 p,.int .i64 q,.int .i64 n,.int .i64 t,.int .i64 i,.int .i64 y,.int .i64 z,.int .i64 v]):=Blk.below' j.o f;have H:c.cell? ⟨b,0,none⟩=some (.int .i64 k)∧c.cell? ⟨b,1,none⟩=some (.int .i64 a)∧c.cell? ⟨b,2,none⟩=some (.int .i64 s)∧c.cell? ⟨b,3,none⟩=some (.bool x)∧c.cell? ⟨b,4,none⟩=some (.int .i64 p)∧c.cell? ⟨b,5,none⟩=some (.int .i64 q)∧c.cell? ⟨b,6,none⟩=some (.int .i64 n)∧c.cell? ⟨b,7,none⟩=some (.int .i64 t)∧c.cell? ⟨b,8,none⟩=some (.int .i64 i)∧c.cell? ⟨b,9,none⟩=some (.int .i64 y)∧c.cell? ⟨b,10,none⟩=some (.int .i64 z)∧c.cell? ⟨b,11,none⟩=some (.int .i64 v):=c12_of E.o))
  all_goals
   go_wp2_with fail
   go_ret;exact⟨rfl,(Hid.o (by assumption))⟩
 subst hc1;cases Z
 all_goals
  go_region_held3 (fun h=>h.cell? ⟨b,0,none⟩=some (.int .i64 k)∧h.cell? ⟨b,1,none⟩=some (.int .i64 a)∧h.cell? ⟨b,2,none⟩=some (.int .i64 s)∧h.cell? ⟨b,3,none⟩=some (.bool x)∧h.cell? ⟨b,4,none⟩=some (.int .i64 p)∧h.cell? ⟨b,5,none⟩=some (.int .i64 q)∧h.cell? ⟨b,6,none⟩=some (.int .i64 n)∧h.cell? ⟨b,7,none⟩=some (.int .i64 t)∧h.cell? ⟨b,8,none⟩=some (.int .i64 i)∧h.cell? ⟨b,9,none⟩=some (.int .i64 y)∧h.cell? ⟨b,10,none⟩=some (.int .i64 z)∧h.cell? ⟨b,11,none⟩=some (.int .i64 v))
   (first|go_keep|(with_reducible assumption)|(exact l)|(exact H))
   (first
    |(go_at_call 88;refine(wbtw_any _ _ _ _).mono ?_;rintro e X ⟨rfl,rfl⟩)
    |(go_at_call 89;refine(alone_any ⟨k,a,s,x,p,q,n,t,i,y,z,v⟩ _).mono ?_;rintro e g ⟨rfl,d⟩;rw[hA,mvl_mk];have C:=κ (below_step F.o d);have j:=κ (Blk.below' o.o d);have l:=c12_of j.o)
    |(go_at_call 90;refine(fits_any ⟨k,a,s,x,p,q,n,t,i,y,z,v⟩ _).mono ?_;rintro e c ⟨rfl,f⟩;rw[G];have Y:=κ (below_step C.o f);have E:=κ (Blk.below' j.o f);have H:=c12_of E.o))
  all_goals
   go_wp2_with fail
   go_ret;exact⟨rfl,(Hid.o (by assumption))⟩
end Wrt
end Go.Proofs.YtcccdikhfgpamaaGreat
