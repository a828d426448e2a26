/- The law, walked in each of its turns: it returns true, and its arguments read as they did. No condition of ours. Texts side by side. -/
import Derived.Deep.Fields
import Derived.SizedLaws
import Derived.Test.YtaeddnjjeholgaaGreatUgbw
set_option linter.unusedVariables false
set_option linter.unusedSimpArgs false
set_option maxRecDepth 100000
set_option maxHeartbeats 16000000
namespace Go.Proofs.YtaeddnjjeholgaaGreat
open Go.ChangeShapes Go.WideShapes Go.RowKit Mem Opn Go.Joins Go.Deep
namespace Opc
open Kap Cfg
variable {held:Bool} {p:List MemPlace} {b0 base n:Nat} {t:TypeId} {v:Value} {w:World}
section
variable {H:Type} {enc:TypeId×Value→H} {P:Program} {w:World} {base:Nat} {spare:Nat→Bool} {held:Bool}
end
section
variable {H:Type} {enc:TypeId×Value→H} {P:Program} {w:World}
theorem u64_bd{a:Int}(h:(Lit.int .u64 a).wf=true):0≤a∧a<18446744073709551616:=by
 simp[Lit.wf]at h;have e:IntKind.u64.max=18446744073709551615:=rfl;have e0:IntKind.u64.min=0:=rfl;have h2:a≤IntKind.u64.max:=by first|exact h.2|exact h
 have h1:IntKind.u64.min≤a:=by first|exact h.1|exact h
 omega
theorem open_fours{e:TypeId}{f0 f1 f2 f3:Field}{fuel:Nat}{x:DataW H×List MemPlace}(ht:P.underlying t=some (.slice e))(he:P.underlying e=some (.struct #[f0,f1,f2,f3]))(ce:P.cellsOf e=4)(o0:f0.offset=0)(o1:f1.offset=1)(o2:f2.offset=2)(o3:f3.offset=3)
  (c0:P.cellsOf f0.type=1)(c1:P.cellsOf f1.type=1)(c2:P.cellsOf f2.type=1)(c3:P.cellsOf f3.type=1)(u0:P.underlying f0.type=some (.int .i64))(u1:P.underlying f1.type=some (.int .i64))(u2:P.underlying f2.type=some (.int .i64))(u3:P.underlying f3.type=some (.int .u64))
  (hf:DataW.trod enc P w base (fun _=>true) held fuel t [v]=some x):
  ∃A c l,v= .slice A l.length c∧l.length≤c∧c≤maxLen∧Btb w w.heap.size A l∧WfS l:=by
 rcases Go.Deep.open_slice ht hf with⟨hc,_⟩|⟨a,len,cap,m,n,D,Pl,hc,hb,hl,hm,hmm,_,hx⟩
 ·injection hc with hc
  exact⟨none,0,[],hc,by simp,by unfold maxLen;omega,.inl rfl,fun i hi=>by simp at hi⟩
 ·injection hc with hc
  subst hc;have hm2:m=cap:=by rw[hmm];simp
  subst hm2
  have key: ∀i,i<m→ ∃q:Int×Int×Int×Nat,w.cell? (a.add (i*4))=some (.int .i64 q.1)∧w.cell? (a.add (i*4+1))=some (.int .i64 q.2.1)∧w.cell? (a.add (i*4+2))=some (.int .i64 q.2.2.1)∧w.cell? (a.add (i*4+3))=some (.int .u64 (q.2.2.2:Int))∧inI q.1∧inI q.2.1∧inI q.2.2.1∧q.2.2.2<18446744073709551616:=by
   intro i hi;obtain⟨cs',h1,h2⟩:=hx i hi;rw[ce]at h1;obtain⟨_,hlen,hcell⟩:=World.cells?_some h1;obtain⟨xs,k,hk,hxy,_,hxl,hfs⟩:=DataW.trod_struct he h2
   match xs,hxl,cs',hlen with
   |[y0,y1,y2,y3],_,[v0,v1,v2,v3],_=>
    have g0:=hfs 0 f0 rfl;have g1:=hfs 1 f1 rfl;have g2:=hfs 2 f2 rfl;have g3:=hfs 3 f3 rfl;simp[o0,o1,o2,o3,c0,c1,c2,c3]at g0 g1 g2 g3;have e0:=hcell 0 (by omega);have e1:=hcell 1 (by omega);have e2:=hcell 2 (by omega);have e3:=hcell 3 (by omega);rw[Go.Deep.add_add]at e0 e1 e2 e3;obtain⟨x,hx,_,wx⟩:=DataW.trod_int u0 g0;obtain⟨y,hy,_,wy⟩:=DataW.trod_int u1 g1;obtain⟨z,hz,_,wz⟩:=DataW.trod_int u2 g2;obtain⟨u,hu,_,wu⟩:=DataW.trod_int u3 g3;simp at hx hy hz hu;subst hx hy hz hu;obtain⟨z0,z1⟩:=u64_bd wu;have eu:((u.toNat:Nat):Int)=u:=by omega
    exact⟨(x,y,z,u.toNat),by simpa using e0,by simpa using e1,by simpa using e2,by rw[eu];simpa using e3,wf_in wx,wf_in wy,wf_in wz,by show u.toNat<_;omega⟩
  obtain⟨fx,hfx⟩:=Go.Deep.choose_lt key;have hlen:((List.range len).map fx).length=len:=by simp
  have tk: ∀i,i<len→sP ((List.range len).map fx) i=(fx i).1∧sQ ((List.range len).map fx) i=(fx i).2.1∧sW ((List.range len).map fx) i=(fx i).2.2.1∧sB ((List.range len).map fx) i=(fx i).2.2.2:=fun i hi=>by simp[sP,sQ,sW,sB,hi]
  refine⟨some a,m,(List.range len).map fx,by rw[hlen],by rw[hlen];exact hl,hm,?_,?_⟩
  ·by_cases h0:len=0
   ·subst h0;exact .inl (by simp[btbs])
   ·obtain⟨ab,ao,asp⟩:=a
    have hs:asp=none:=by
     have:=(hfx 0 (by omega)).1;rw[Nat.zero_mul]at this;exact spot_none this
    subst hs;refine .inr ⟨ab,ao,rfl,?_,?_⟩
    ·have:=blk_lt (hfx 0 (by omega)).1;simpa[Addr.add] using this
    ·intro i v hv
     have hil:i<len*4:=by
      have:=(List.getElem?_eq_some_iff.1 hv).1;rwa[btbs_len,hlen]at this
     have hg:=btbs_get ((List.range len).map fx) (i / 4) (by rw[hlen];omega);obtain⟨q0,q1,q2,q3,_⟩:=hfx (i / 4) (by omega);obtain⟨r0,r1,r2,r3⟩:=tk (i / 4) (by omega);rw[r0,r1,r2,r3]at hg;rw[add_lit']at q0 q1 q2 q3;rcases(by omega:i%4=0∨i%4=1∨i%4=2∨i%4=3) with k|k|k|k
     ·have e:i / 4*4=i:=by omega
      rw[e]at hg q0;rw[hg.1]at hv;injection hv with hv
      rw[q0,hv]
     ·have e:i / 4*4+1=i:=by omega
      rw[e]at hg q1;rw[hg.2.1]at hv;injection hv with hv
      rw[q1,hv]
     ·have e:i / 4*4+2=i:=by omega
      rw[e]at hg q2;rw[hg.2.2.1]at hv;injection hv with hv
      rw[q2,hv]
     ·have e:i / 4*4+3=i:=by omega
      rw[e]at hg q3;rw[hg.2.2.2]at hv;injection hv with hv
      rw[q3,hv]
  ·intro i hil;rw[hlen]at hil;obtain⟨_,_,_,_,s0,s1,s2,s3⟩:=hfx i (by omega);obtain⟨r0,r1,r2,r3⟩:=tk i hil;rw[r0,r1,r2,r3];exact⟨s0,s1,s2,s3⟩
theorem one_int{y:DataW H×List MemPlace}{spare:Nat→Bool}(hu:P.underlying t=some (.int .i64))(h:DataW.trod enc P w base spare held n t [v]=some y): ∃x:Int,v= .int .i64 x∧inI x:=by
 obtain⟨x,hx,_,wx⟩:=DataW.trod_int hu h;simp at hx;exact⟨x,hx,wf_in wx⟩
theorem one_bool{y:DataW H×List MemPlace}{spare:Nat→Bool}(hu:P.underlying t=some .bool)(h:DataW.trod enc P w base spare held n t [v]=some y): ∃x:Bool,v= .bool x:=by
 obtain⟨x,hx,_⟩:=DataW.trod_bool hu h;simp at hx;exact⟨x,hx⟩
end
end Opc
namespace Ocs
open Kap Cfg Opc
variable {p:List MemPlace} {b0:Nat} {t:TypeId} {v:Value}
section
variable {H:Type} {enc:TypeId×Value→H} {P:Program} {w:World} {base:Nat} {spare:Nat→Bool} {held:Bool}
theorem open_agg7d{r:Reach}{f0 f1 f2 f3 f4 f5 f6:Field}{d:DataW H}(hs:P.underlying t=some (.struct #[f0,f1,f2,f3,f4,f5,f6]))(hone:oneCellFields P #[f0,f1,f2,f3,f4,f5,f6]=true)(hC:P.cellsOf t=7)
  (hv:Value.okWide P w r b0 t v)(h:DataW.Trod enc P w base spare held t v d p):
  ∃(v0 v1 v2 v3 v4 v5 v6:Value) (y0 y1 y2 y3 y4 y5 y6:DataW H×List MemPlace) (n:Nat),v= .agg #[v0,v1,v2,v3,v4,v5,v6]∧d= .agg [y0.1,y1.1,y2.1,y3.1,y4.1,y5.1,y6.1]∧
   DataW.trod enc P w base spare held n f0.type [v0]=some y0∧DataW.trod enc P w base spare held n f1.type [v1]=some y1∧DataW.trod enc P w base spare held n f2.type [v2]=some y2∧DataW.trod enc P w base spare held n f3.type [v3]=some y3∧DataW.trod enc P w base spare held n f4.type [v4]=some y4∧DataW.trod enc P w base spare held n f5.type [v5]=some y5∧DataW.trod enc P w base spare held n f6.type [v6]=some y6:=by
 obtain⟨cs,rfl,hsz⟩:=okWide_struct hs hv;obtain⟨l⟩:=cs
 match l,hsz.trans hC with
 |[c0,c1,c2,c3,c4,c5,c6],_=>
  obtain⟨fuel,hf⟩:=h;obtain⟨xs,n,_,hx,_,hlen,hg⟩:=DataW.trod_struct hs hf;obtain⟨o0,k0⟩:=hone_of hone 0 f0 rfl;obtain⟨o1,k1⟩:=hone_of hone 1 f1 rfl;obtain⟨o2,k2⟩:=hone_of hone 2 f2 rfl;obtain⟨o3,k3⟩:=hone_of hone 3 f3 rfl;obtain⟨o4,k4⟩:=hone_of hone 4 f4 rfl;obtain⟨o5,k5⟩:=hone_of hone 5 f5 rfl;obtain⟨o6,k6⟩:=hone_of hone 6 f6 rfl
  match xs,hlen with
  |[y0,y1,y2,y3,y4,y5,y6],_=>
   injection hx with hx1 hx2
   exact⟨c0,c1,c2,c3,c4,c5,c6,y0,y1,y2,y3,y4,y5,y6,n,rfl,hx1,by simpa[Value.cells,o0,k0] using hg 0 f0 rfl,by simpa[Value.cells,o1,k1] using hg 1 f1 rfl,by simpa[Value.cells,o2,k2] using hg 2 f2 rfl,by simpa[Value.cells,o3,k3] using hg 3 f3 rfl,by simpa[Value.cells,o4,k4] using hg 4 f4 rfl,by simpa[Value.cells,o5,k5] using hg 5 f5 rfl,by simpa[Value.cells,o6,k6] using hg 6 f6 rfl⟩
theorem slice_weight{e:TypeId}{fuel:Nat}{A:Option Addr}{n c:Nat}{x:DataW H×List MemPlace}(ht:P.underlying t=some (.slice e))(h:DataW.trod enc P w base (fun _=>true) held fuel t [.slice A n c]=some x)(hz: ∀k∈x.1.weights P t,k≤reachBytes):n*P.bytesOf e≤reachBytes:=by
 rcases Go.Deep.open_slice ht h with⟨hc,_⟩|⟨a,len,cap,m,k,D,Pl,hc,hb,hl,hm,hmm,hx,_⟩
 ·injection hc with hc
  simp only[Value.slice.injEq]at hc;rw[hc.2.1];simp
 ·injection hc with hc
  simp only[Value.slice.injEq]at hc;rw[hx]at hz;have h2:=hz ((((List.range len).map D).length+((List.range (m-len)).map fun j=>D (len+j)).length)*P.bytesOf e) (by simp[DataW.weights,ht]);rw[hc.2.1];refine Nat.le_trans (Nat.mul_le_mul_right _ ?_) h2;simp
end
theorem open_conf_s{H:Type}{enc:TypeId×Value→H}{w:World}{r:Reach}{base:Nat}{held:Bool}{d:DataW H}(hv:Value.okWide Tryz.prog w r b0 26 v)(h:DataW.Trod enc Tryz.prog w base (fun _=>true) held 26 v d p)(hz: ∀k∈d.weights Tryz.prog 26,k≤reachBytes):
  ∃(sh wi ra ta:Int) (A B C:Option Addr) (c d f:Nat) (nd:List (Int×Int)) (ac:List Int) (sy:List (Int×Int×Int×Nat)),v= .agg #[.int .i64 sh,.int .i64 wi,.int .i64 ra,.int .i64 ta,.slice A nd.length c,.slice B ac.length d,.slice C sy.length f]∧
   inI sh∧inI wi∧inI ra∧inI ta∧(nd.length:Int)≤4611686018427387904∧(ac.length:Int)≤4611686018427387904∧(sy.length:Int)≤4398046511104∧Nds w w.heap.size A nd∧WfN nd∧Ris w w.heap.size B ac∧WfI ac∧Btb w w.heap.size C sy∧WfS sy:=by
 obtain⟨v0,v1,v2,v3,v4,v5,v6,y0,y1,y2,y3,y4,y5,y6,n,rfl,rfl,g0,g1,g2,g3,g4,g5,g6⟩:=open_agg7d Tryz.underlying26 (by kernel_rfl) (by kernel_rfl) hv h
 have hw: ∀(j:Nat) (t':TypeId) (y:DataW H),[3,3,3,3,22,23,24][j]? =some t'→[y0.1,y1.1,y2.1,y3.1,y4.1,y5.1,y6.1][j]? =some y→ ∀k∈y.weights Tryz.prog t',k≤reachBytes:=by
  intro j t' y h1 h2 k hk;refine hz k ?_;simp only[DataW.weights,Tryz.underlying26];exact DataW.weights_mem_each (j:=j) h1 h2 k hk
 obtain⟨sh,rfl,i0⟩:=one_int Tryz.underlying3 g0;obtain⟨wi,rfl,i1⟩:=one_int Tryz.underlying3 g1;obtain⟨ra,rfl,i2⟩:=one_int Tryz.underlying3 g2;obtain⟨ta,rfl,i3⟩:=one_int Tryz.underlying3 g3;obtain⟨A,c,nd,rfl,h1,h2,hn,hwn⟩:=open_nodesc Tryz.underlying22 Tryz.underlying71 (by kernel_rfl) rfl rfl (by kernel_rfl) (by kernel_rfl) Tryz.underlying3 Tryz.underlying2 g4;obtain⟨B,d,ac,rfl,h3,h4,ha,hwa⟩:=open_i64c Tryz.underlying23 Tryz.underlying3 (by kernel_rfl) g5;obtain⟨C,f,sy,rfl,h5,h6,hs,hws⟩:=open_fours Tryz.underlying24 Tryz.underlying86 (by kernel_rfl) rfl rfl rfl rfl (by kernel_rfl) (by kernel_rfl) (by kernel_rfl) (by kernel_rfl) Tryz.underlying2 Tryz.underlying2 Tryz.underlying2 Tryz.underlying72 g6;have w4:=slice_weight Tryz.underlying22 g4 (hw 4 _ _ rfl rfl);have w5:=slice_weight Tryz.underlying23 g5 (hw 5 _ _ rfl rfl);have w6:=slice_weight Tryz.underlying24 g6 (hw 6 _ _ rfl rfl);rw[show Tryz.prog.bytesOf 71=16 from by kernel_rfl]at w4;rw[show Tryz.prog.bytesOf 3=8 from by kernel_rfl]at w5;rw[show Tryz.prog.bytesOf 86=32 from by kernel_rfl]at w6;unfold reachBytes at w4 w5 w6;exact⟨sh,wi,ra,ta,A,B,C,c,d,f,nd,ac,sy,rfl,i0,i1,i2,i3,by omega,by omega,by omega,hn,hwn,ha,hwa,hs,hws⟩
end Ocs
namespace Wom
open Opc Wpl Wmr
theorem open_msg {H : Type} {enc : TypeId × Value → H} {w : World} {r : Reach} {b0 base : Nat} {spare : Nat → Bool} {held : Bool} {v : Value} {d : DataW H} {p : List MemPlace}
    (hv : Value.okWide Tryz.prog w r b0 30 v) (h : DataW.Trod enc Tryz.prog w base spare held 30 v d p) : ∃ m : M, v = mvl m ∧ WfM m := by
  have cM : Tryz.prog.cellsOf 30 = 12 := by kernel_rfl
  have cO : Tryz.prog.cellsOf 28 = 7 := by kernel_rfl
  have ci : Tryz.prog.cellsOf 3 = 1 := by kernel_rfl
  have cl : Tryz.prog.cellsOf 2 = 1 := by kernel_rfl
  have cb : Tryz.prog.cellsOf 4 = 1 := by kernel_rfl
  obtain ⟨cs, rfl, hsz⟩ := okWide_struct Tryz.underlying30 hv
  obtain ⟨l⟩ := cs
  match l, hsz.trans cM with
  | [e0, e1, e2, e3, e4, e5, e6, e7, e8, e9, e10, e11], _ =>
    obtain ⟨fuel, hf⟩ := h
    obtain ⟨xs, n, _, _, _, hlen, hg⟩ := DataW.trod_struct Tryz.underlying30 hf
    match xs, hlen with
    | [y0, y1, y2, y3, y4, y5], _ =>
      have g0 := hg 0 _ rfl
      have g1 := hg 1 _ rfl
      have g2 := hg 2 _ rfl
      have g3 := hg 3 _ rfl
      have g4 := hg 4 _ rfl
      have g5 := hg 5 _ rfl
      simp [Value.cells, ci, cO, cl] at g0 g1 g2 g3 g4 g5
      obtain ⟨xs1, n1, _, _, _, hlen1, hg1⟩ := DataW.trod_struct Tryz.underlying28 g1
      match xs1, hlen1 with
      | [u0, u1, u2, u3, u4, u5, u6], _ =>
        have q0 := hg1 0 _ rfl
        have q1 := hg1 1 _ rfl
        have q2 := hg1 2 _ rfl
        have q3 := hg1 3 _ rfl
        have q4 := hg1 4 _ rfl
        have q5 := hg1 5 _ rfl
        have q6 := hg1 6 _ rfl
        simp [ci, cl, cb] at q0 q1 q2 q3 q4 q5 q6
        obtain ⟨k, rfl, w0⟩ := one_int Tryz.underlying3 g0
        obtain ⟨a, rfl, w1⟩ := one_int Tryz.underlying3 q0
        obtain ⟨s, rfl, w2⟩ := one_int Tryz.underlying3 q1
        obtain ⟨x, rfl⟩ := one_bool Tryz.underlying4 q2
        obtain ⟨p, rfl, w3⟩ := one_int Tryz.underlying2 q3
        obtain ⟨q, rfl, w4⟩ := one_int Tryz.underlying2 q4
        obtain ⟨m, rfl, w5⟩ := one_int Tryz.underlying2 q5
        obtain ⟨t, rfl, w6⟩ := one_int Tryz.underlying2 q6
        obtain ⟨i, rfl, w7⟩ := one_int Tryz.underlying3 g2
        obtain ⟨y, rfl, w8⟩ := one_int Tryz.underlying2 g3
        obtain ⟨z, rfl, w9⟩ := one_int Tryz.underlying3 g4
        obtain ⟨o, rfl, w10⟩ := one_int Tryz.underlying2 g5
        exact ⟨⟨k, a, s, x, p, q, m, t, i, y, z, o⟩, rfl, w0, w1, w2, w3, w4, w5, w6, w7, w8, w9, w10⟩
end Wom
namespace GateNews
open Go.ChangeAt Ocs Wom Wpl
theorem own : ownKnob Tryz.prog.godebug = none := by kernel_rfl
theorem laidOut : laidOutB Tryz.prog = true := by kernel_rfl
set_option maxRecDepth 100000 in
theorem lifted (os : Os) (started : os.Started) (H : Type) (enc : TypeId × Value → H) :
    ReturnsInHanded {} Tryz.checked os 3 .any (Rows.gateNewsSpec.pre6 enc Tryz.prog Tryz.f3 Rows.gateNewsRow.domain false) (Rows.gateNewsSpec.post enc Tryz.prog Tryz.f3 false true false false) := by
  refine returnsInHanded_of_change_sized (C := Tryz.checked) own started (by kernel_rfl) Tryz.func3
    (ChangeSpec.witness6 (enc := enc) (C := Tryz.checked) false ⟨#[], #[.agg #[.int .i64 0, .int .i64 0, .int .i64 0, .int .i64 0, .slice none 0 0, .slice none 0 0, .slice none 0 0], .int .i64 0, .agg #[.int .i64 0, .int .i64 0, .int .i64 0, .bool false, .int .i64 0, .int .i64 0, .int .i64 0, .int .i64 0, .int .i64 0, .int .i64 0, .int .i64 0, .int .i64 0]], []⟩ 8 (by kernel_rfl) (by kernel_rfl) (by kernel_rfl) (by kernel_rfl)) ?_
  intro W base args ds gs before hval0 hW hcnd hsz _
  have hval : ∀ (j : Nat) t v, Tryz.f3.params[j]? = some t → args[j]? = some v → Value.okWide Tryz.prog W .any base t v := hval0
  have hW' := hW
  obtain ⟨p, q, hA0, hV, rfl, hfz, hnd⟩ := hW
  have hA : DataW.TrodAll enc Tryz.prog W 0 (fun _ => true) true Tryz.f3.params.toList args.toList ds p := hA0
  rw [Tryz.params3] at hA hval
  obtain ⟨v0, v1, v2, d0, d1, d2, p0, p1, p2, rfl, rfl, rfl, h0, h1, h2⟩ := trodAll_three hA
  have hz0 : ∀ k ∈ d0.weights Tryz.prog 26, k ≤ reachBytes := by
    intro k hk
    have := List.all_eq_true.1 hsz k (DataW.weights_mem_each (j := 0) rfl rfl k hk)
    simpa using this
  obtain ⟨a1, rfl, _, _, w1⟩ := open_int Tryz.underlying3 (hval 1 3 v1 rfl rfl) h1
  obtain ⟨m, rfl, hm⟩ := open_msg (hval 2 _ v2 rfl rfl) h2
  obtain ⟨sh, wi, ra, ta, A, B, C, c, d, f, nd, ac, sy, rfl, _, _, _, _, k1, k2, k3, hn, hw, ha, hwa, hs, hws⟩ := open_conf_s (hval 0 _ v0 rfl rfl) h0 hz0
  refine (gateNews.inner sh wi ra ta A B C _ _ _ c d f nd ac sy a1 (wf_in w1) m hm W rfl rfl rfl k1 k2 k3 hn ha hs hw hwa hws).mono fun e W' ⟨he, hb⟩ => ?_
  subst he
  exact ⟨_, rfl, law_post hW' rfl rfl rfl rfl (by kernel_rfl) Tryz.underlying4 (by rw [Tryz.params3]; simp only [List.mem_cons, List.not_mem_nil, or_false, forall_eq_or_imp, forall_eq]; exact ⟨⟨by kernel_rfl, of_decide_eq_true (by kernel_rfl)⟩, ⟨by kernel_rfl, of_decide_eq_true (by kernel_rfl)⟩, ⟨by kernel_rfl, of_decide_eq_true (by kernel_rfl)⟩⟩) laidOut hb⟩
theorem over : Rows.gateNewsRow.holds Tryz.pinned (OpenSpec.ofChange Rows.gateNewsSpec) :=
  OpenClaim.holds_of_wide 3 Tryz.f3 rfl rfl rfl rfl rfl rfl rfl ⟨rfl, rfl, rfl, rfl, rfl⟩ rfl rfl rfl rfl rfl (by kernel_rfl) Tryz.func3 (by kernel_rfl)
    (of_decide_eq_true (by kernel_rfl)) (by unfold Func.isWrapper; first | (rw [if_pos (by decide +kernel)]; kernel_rfl) | (rw [if_neg (by decide +kernel)]; exact ⟨rfl, rfl⟩))
    (fun os started H enc _ => lifted os started H enc)
theorem proved : Rows.GateNewsSaid := over
#print axioms proved
end GateNews
end Go.Proofs.YtaeddnjjeholgaaGreat
