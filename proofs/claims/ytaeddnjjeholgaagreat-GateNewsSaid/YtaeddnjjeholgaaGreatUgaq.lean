/- Texts side by side. -/
import Derived.ChangeSlices
import Derived.Lib.SmallJoins
import Derived.Test.YtaeddnjjeholgaaGreatUgag
set_option linter.unusedVariables false
set_option linter.unusedSimpArgs false
set_option maxRecDepth 100000
set_option maxHeartbeats 16000000
namespace Go.Proofs.YtaeddnjjeholgaaGreat
open Go.ChangeShapes Go.WideShapes Go.RowKit
namespace Kap
open Go.ChangeAt Mem
abbrev ι (x : Int) : Value := .int .i64 x
abbrev α (b i : Nat) : Addr := ⟨b, i, none⟩
theorem κ {P : Prop} (h : P) : Hid P := Lib.hid h
theorem ν {A : Sort _} (x : A) : ∃ v, v = x := ⟨x, rfl⟩
theorem χ {w : World} {a : Addr} {r : Option Value} {v : Value} (h : w.cell? a = r) (e : r = some v := by first | (simp only [List.setIfInBounds_toArray, List.set_cons_zero, List.set_cons_succ, List.getElem?_toArray, List.getElem?_cons_zero, List.getElem?_cons_succ]; exact rfl) | exact rfl) : w.cell? a = some v := h.trans e
theorem ξ {p q : Prop} (h : p) (e : p = q := by first | (simp only [List.setIfInBounds_toArray, List.set_cons_zero, List.set_cons_succ, List.getElem?_toArray, List.getElem?_cons_zero, List.getElem?_cons_succ]; exact rfl) | exact rfl) : q := e ▸ h
theorem β (w : World) (o : Obj) : Below w.heap.size w (w.alloc o) := (Below.refl _ _).alloc (Nat.le_refl _) _
theorem γ (w : World) (o p : Obj) : Below w.heap.size w ((w.alloc o).alloc p) := ((Below.refl _ _).alloc (Nat.le_refl _) _).alloc (by simp) _
theorem δ (w : World) (te : TypeId) (cs : Array Value) (g : Nat) (h : g = w.heap.size := by simp) : Blk (w.alloc (.cells cs te)) g te cs := by subst h; exact Blk.fresh _ _ _
theorem ε {w : World} {g te : Nat} {cs : Array Value} (h : Blk w g te cs) : Blk w.drew g te cs := h
theorem ζ {w : World} {g g' te : Nat} {cs : Array Value} (h : g = g') (k : Blk w g' te cs) : Blk w g te cs := h ▸ k
theorem ω {w : World} (b : Addr) (v : Value) {a : Addr} {r : Option Value} (k : w.cell? a = r) (h : b ≠ a := by intro e; injection e with e1 e2; omega) : (w.setCell b v).cell? a = r := (World.cell?_setCell_other _ _ _ _ h).trans k
theorem φ {w : World} (b : Addr) (v : Value) {a : Addr} {r : Bool} (k : w.frozen? a = r) : (w.setCell b v).frozen? a = r := by rw [World.frozen?_setCell]; exact k
theorem η {w w' : World} {A : Option Addr} {xs : List Int} (h : Ris w w.heap.size A xs) (hb : Below w.heap.size w w') : Hid (Ris w' w'.heap.size A xs) := Rd.below' h hb hb.size
theorem θ {w w' : World} {A : Option Addr} {xs : List (Int × Int)} (h : Nds w w.heap.size A xs) (hb : Below w.heap.size w w') : Hid (Nds w' w'.heap.size A xs) := Rd.below' h hb hb.size
theorem τ {n : Nat} : n ≤ n := Nat.le_refl n
theorem ψ {B : Nat} {w : World} : Below B w w := Below.refl B w
end Kap
namespace Gsm
open Kap Go.ChangeAt Go.Lib Mem Cel Cm Cn
theorem w64 {x : Int} (h0 : -9223372036854775808 ≤ x) (h1 : x ≤ 9223372036854775807) : wrap64 x = x := by unfold wrap64; omega
theorem usedWord_any (n : Int) (w : World) (h0 : 0 ≤ n) (h1 : n ≤ 1000) : Calls Tryz.prog 36 #[.int .i64 n] w (ToldV (.int .i64 (1 + 2 * n)) w) := by
  have e1 : wrap64 (2 * n) = 2 * n := w64 (by omega) (by omega)
  have e2 : wrap64 (1 + 2 * n) = 1 + 2 * n := w64 (by omega) (by omega)
  go_enter Tryz.func36, Tryz.ntmps36
  go_wp2
  go_ret
  exact toldV_mk rfl
theorem capWord_any (n : Int) (w : World) (h0 : 0 ≤ n) (h1 : n ≤ 1000) : Calls Tryz.prog 39 #[.int .i64 n] w (ToldV (.int .i64 (1 + 2 * n + 1)) w) := by
  have e1 : wrap64 (2 * n) = 2 * n := w64 (by omega) (by omega)
  have e2 : wrap64 (1 + 2 * n) = 1 + 2 * n := w64 (by omega) (by omega)
  have e3 : wrap64 (1 + 2 * n + 1) = 1 + 2 * n + 1 := w64 (by omega) (by omega)
  go_enter Tryz.func39, Tryz.ntmps39
  go_wp2
  go_ret
  exact toldV_mk rfl
theorem shardLatch_any (n : Int) (w : World) (h0 : 0 ≤ n) (h1 : n ≤ 1000) : Calls Tryz.prog 109 #[.int .i64 n] w (ToldV (.int .i64 (2 + n)) w) := by
  have e1 : wrap64 (2 + n) = 2 + n := w64 (by omega) (by omega)
  go_enter Tryz.func109, Tryz.ntmps109
  go_wp2
  go_ret
  exact toldV_mk rfl
end Gsm
namespace Stk
open Kap Mem
variable {cs:Array Value} {B g k:Nat} {te:TypeId} {u0 u1 u2 u3 u4 u5 u6 v0 v1 v10 v2 v3 v4 v5 v6 v7 v8 v9:Value} {W w w0:World}
theorem blk_st(h:Blk w g te cs)(i:Nat)(u:Value):Blk (w.setCell ⟨g,i,none⟩ u) g te (cs.setIfInBounds i u):=
 heap_setCell_same w g i cs te u h
theorem far_st{g':Nat}(h:Blk w g te cs)(hne:g≠g'){i:Nat}(u:Value):Blk (w.setCell ⟨g',i,none⟩ u) g te cs:=
 (Below.heap_setCell w ⟨g',i,none⟩ u g hne).trans h
def st3(W:World)(g:Nat)(v0 v1 v2:Value):World:=(((W.setCell ⟨g,0,none⟩ v0).setCell ⟨g,1,none⟩ v1).setCell ⟨g,2,none⟩ v2)
theorem st3_blk(hk:Blk W g te #[u0,u1,u2]):Blk (st3 W g v0 v1 v2) g te #[v0,v1,v2]:=by
 have k0:=ξ (blk_st hk 0 v0);have k1:=ξ (blk_st k0 1 v1);have k2:=ξ (blk_st k1 2 v2);exact k2
theorem z3_of(h:Blk W g te #[v0,v1,v2]):W.cell? ⟨g,0,none⟩=some v0∧W.cell? ⟨g,1,none⟩=some v1∧W.cell? ⟨g,2,none⟩=some v2∧W.frozen? ⟨g,0,none⟩=false∧W.frozen? ⟨g,1,none⟩=false∧W.frozen? ⟨g,2,none⟩=false:=⟨h.cell 0,h.cell 1,h.cell 2,h.thaw 0,h.thaw 1,h.thaw 2⟩
theorem q3_of(h:Blk W g te #[v0,v1,v2]):W.cell? ⟨g,0,none⟩=some v0∧W.cell? ⟨g,1,none⟩=some v1∧W.cell? ⟨g,2,none⟩=some v2:=⟨h.cell 0,h.cell 1,h.cell 2⟩
def st4(W:World)(g:Nat)(v0 v1 v2 v3:Value):World:=((((W.setCell ⟨g,0,none⟩ v0).setCell ⟨g,1,none⟩ v1).setCell ⟨g,2,none⟩ v2).setCell ⟨g,3,none⟩ v3)
theorem st4_blk(hk:Blk W g te #[u0,u1,u2,u3]):Blk (st4 W g v0 v1 v2 v3) g te #[v0,v1,v2,v3]:=by
 have k0:=ξ (blk_st hk 0 v0);have k1:=ξ (blk_st k0 1 v1);have k2:=ξ (blk_st k1 2 v2);have k3:=ξ (blk_st k2 3 v3);exact k3
theorem st4_below(hb:Below B w0 W)(hg:B≤g):Below B w0 (st4 W g v0 v1 v2 v3):=((((hb.setCell (p:=⟨g,0,none⟩) hg v0).setCell (p:=⟨g,1,none⟩) hg v1).setCell (p:=⟨g,2,none⟩) hg v2).setCell (p:=⟨g,3,none⟩) hg v3)
theorem st4_far(h:Blk W k te cs)(hne:k≠g):Blk (st4 W g v0 v1 v2 v3) k te cs:=by
 unfold st4;exact(far_st (far_st (far_st (far_st h hne v0) hne v1) hne v2) hne v3)
theorem z4_of(h:Blk W g te #[v0,v1,v2,v3]):W.cell? ⟨g,0,none⟩=some v0∧W.cell? ⟨g,1,none⟩=some v1∧W.cell? ⟨g,2,none⟩=some v2∧W.cell? ⟨g,3,none⟩=some v3∧W.frozen? ⟨g,0,none⟩=false∧W.frozen? ⟨g,1,none⟩=false∧W.frozen? ⟨g,2,none⟩=false∧W.frozen? ⟨g,3,none⟩=false:=⟨h.cell 0,h.cell 1,h.cell 2,h.cell 3,h.thaw 0,h.thaw 1,h.thaw 2,h.thaw 3⟩
theorem q4_of(h:Blk W g te #[v0,v1,v2,v3]):W.cell? ⟨g,0,none⟩=some v0∧W.cell? ⟨g,1,none⟩=some v1∧W.cell? ⟨g,2,none⟩=some v2∧W.cell? ⟨g,3,none⟩=some v3:=⟨h.cell 0,h.cell 1,h.cell 2,h.cell 3⟩
def st7(W:World)(g:Nat)(v0 v1 v2 v3 v4 v5 v6:Value):World:=(((((((W.setCell ⟨g,0,none⟩ v0).setCell ⟨g,1,none⟩ v1).setCell ⟨g,2,none⟩ v2).setCell ⟨g,3,none⟩ v3).setCell ⟨g,4,none⟩ v4).setCell ⟨g,5,none⟩ v5).setCell ⟨g,6,none⟩ v6)
theorem st7_blk(hk:Blk W g te #[u0,u1,u2,u3,u4,u5,u6]):Blk (st7 W g v0 v1 v2 v3 v4 v5 v6) g te #[v0,v1,v2,v3,v4,v5,v6]:=by
 have k0:=ξ (blk_st hk 0 v0);have k1:=ξ (blk_st k0 1 v1);have k2:=ξ (blk_st k1 2 v2);have k3:=ξ (blk_st k2 3 v3);have k4:=ξ (blk_st k3 4 v4);have k5:=ξ (blk_st k4 5 v5);have k6:=ξ (blk_st k5 6 v6);exact k6
theorem st7_below(hb:Below B w0 W)(hg:B≤g):Below B w0 (st7 W g v0 v1 v2 v3 v4 v5 v6):=(((((((hb.setCell (p:=⟨g,0,none⟩) hg v0).setCell (p:=⟨g,1,none⟩) hg v1).setCell (p:=⟨g,2,none⟩) hg v2).setCell (p:=⟨g,3,none⟩) hg v3).setCell (p:=⟨g,4,none⟩) hg v4).setCell (p:=⟨g,5,none⟩) hg v5).setCell (p:=⟨g,6,none⟩) hg v6)
theorem st7_far(h:Blk W k te cs)(hne:k≠g):Blk (st7 W g v0 v1 v2 v3 v4 v5 v6) k te cs:=by
 unfold st7;exact(far_st (far_st (far_st (far_st (far_st (far_st (far_st h hne v0) hne v1) hne v2) hne v3) hne v4) hne v5) hne v6)
theorem z7_of(h:Blk W g te #[v0,v1,v2,v3,v4,v5,v6]):W.cell? ⟨g,0,none⟩=some v0∧W.cell? ⟨g,1,none⟩=some v1∧W.cell? ⟨g,2,none⟩=some v2∧W.cell? ⟨g,3,none⟩=some v3∧W.cell? ⟨g,4,none⟩=some v4∧W.cell? ⟨g,5,none⟩=some v5∧W.cell? ⟨g,6,none⟩=some v6∧W.frozen? ⟨g,0,none⟩=false∧W.frozen? ⟨g,1,none⟩=false∧W.frozen? ⟨g,2,none⟩=false∧W.frozen? ⟨g,3,none⟩=false∧W.frozen? ⟨g,4,none⟩=false∧W.frozen? ⟨g,5,none⟩=false∧W.frozen? ⟨g,6,none⟩=false:=⟨h.cell 0,h.cell 1,h.cell 2,h.cell 3,h.cell 4,h.cell 5,h.cell 6,h.thaw 0,h.thaw 1,h.thaw 2,h.thaw 3,h.thaw 4,h.thaw 5,h.thaw 6⟩
theorem q7_of(h:Blk W g te #[v0,v1,v2,v3,v4,v5,v6]):W.cell? ⟨g,0,none⟩=some v0∧W.cell? ⟨g,1,none⟩=some v1∧W.cell? ⟨g,2,none⟩=some v2∧W.cell? ⟨g,3,none⟩=some v3∧W.cell? ⟨g,4,none⟩=some v4∧W.cell? ⟨g,5,none⟩=some v5∧W.cell? ⟨g,6,none⟩=some v6:=⟨h.cell 0,h.cell 1,h.cell 2,h.cell 3,h.cell 4,h.cell 5,h.cell 6⟩
theorem q11_of(h:Blk W g te #[v0,v1,v2,v3,v4,v5,v6,v7,v8,v9,v10]):W.cell? ⟨g,0,none⟩=some v0∧W.cell? ⟨g,1,none⟩=some v1∧W.cell? ⟨g,2,none⟩=some v2∧W.cell? ⟨g,3,none⟩=some v3∧W.cell? ⟨g,4,none⟩=some v4∧W.cell? ⟨g,5,none⟩=some v5∧W.cell? ⟨g,6,none⟩=some v6∧W.cell? ⟨g,7,none⟩=some v7∧W.cell? ⟨g,8,none⟩=some v8∧W.cell? ⟨g,9,none⟩=some v9∧W.cell? ⟨g,10,none⟩=some v10:=⟨h.cell 0,h.cell 1,h.cell 2,h.cell 3,h.cell 4,h.cell 5,h.cell 6,h.cell 7,h.cell 8,h.cell 9,h.cell 10⟩
end Stk
namespace Opn
open Kap Mem
variable {held:Bool} {base fuel:Nat} {e t:TypeId} {v:Value}
section
variable {H:Type} {enc:TypeId×Value→H} {P:Program} {w:World}
theorem open_i64c{x:DataW H×List MemPlace}(ht:P.underlying t=some (.slice e))(he:P.underlying e=some (.int .i64))(hc:P.cellsOf e=1)
  (h:DataW.trod enc P w base (fun _=>true) held fuel t [v]=some x): ∃A c u,v= .slice A u.length c∧u.length≤c∧c≤maxLen∧Ris w w.heap.size A u∧WfI u:=by
 rcases open_ints ht he hc h with⟨h1,_⟩|⟨a,len,cap,zs,h1,_,hl,hm,hz,_,hcell,hwf⟩
 ·injection h1 with h1
  exact⟨none,0,[],h1,by simp,by unfold maxLen;omega,.inl rfl,fun i hi=>by simp at hi⟩
 ·injection h1 with h1
  simp only[if_true]at hz;have hlen:(zs.take len).length=len:=by rw[List.length_take];omega
  have hget: ∀i,i<len→gI (zs.take len) i=zs.getD i 0:=fun i hi=>by simp[gI,hi]
  refine⟨some a,cap,zs.take len,by rw[hlen];exact h1,by rw[hlen];exact hl,hm,?_,?_⟩
  ·by_cases h0:len=0
   ·subst h0;exact .inl (by simp[ints])
   ·obtain⟨ab,ao,asp⟩:=a;have h00:=hcell 0 (by omega);have hs:=spot_none h00;subst hs;refine .inr ⟨ab,ao,rfl,?_,?_⟩
    ·have:=blk_lt h00;simpa[Addr.add] using this
    ·intro i v hv
     have hil:i<len:=by
      have:=(List.getElem?_eq_some_iff.1 hv).1;rwa[ints_len,hlen]at this
     have hci:=hcell i (by omega);rw[add_lit']at hci;rw[hci]
     have:(ints (zs.take len))[i]? =some (ι (zs.getD i 0)):=by
      have hz':i<zs.length:=by omega
      simp[ints,hil,hz']
     rw[this]at hv;exact hv
  ·intro i hi;rw[hlen]at hi;rw[hget i hi];have hz':i<zs.length:=by omega
   have:=hwf zs[i] (List.getElem_mem hz');have e:zs.getD i 0=zs[i]:=by simp[hz']
   rw[e];exact wf_in this
theorem open_nodesc{f0 f1:Field}{x:DataW H×List MemPlace}(ht:P.underlying t=some (.slice e))(he:P.underlying e=some (.struct #[f0,f1]))(ce:P.cellsOf e=2)(o0:f0.offset=0)(o1:f1.offset=1)
  (c0:P.cellsOf f0.type=1)(c1:P.cellsOf f1.type=1)(u0:P.underlying f0.type=some (.int .i64))(u1:P.underlying f1.type=some (.int .i64))
  (h:DataW.trod enc P w base (fun _=>true) held fuel t [v]=some x):
  ∃A c l,v= .slice A l.length c∧l.length≤c∧c≤maxLen∧Nds w w.heap.size A l∧WfN l:=by
 have hv: ∃A n c,v= .slice A n c:=by
  rcases Go.Deep.open_slice_pairs ht he ce o0 o1 c0 c1 h with⟨hc,_⟩|⟨a,len',cap',m,n,V0,V1,D0,D1,P0,P1,hc,_⟩
  ·injection hc with hc;exact⟨_,_,_,hc⟩
  ·injection hc with hc;exact⟨_,_,_,hc⟩
 obtain⟨A,len,cap,rfl⟩:=hv;rcases Go.Deep.open_slice_pairs ht he ce o0 o1 c0 c1 h with⟨hc,_⟩|⟨a,len',cap',m,n,V0,V1,D0,D1,P0,P1,hc,hb,hl,hm,hmm,hx,hi⟩
 ·simp at hc;obtain⟨rfl,rfl,rfl⟩:=hc;exact⟨none,0,[],rfl,by simp,by unfold maxLen;omega,.inl rfl,fun i hi=>by simp at hi⟩
 ·simp at hc;obtain⟨rfl,rfl,rfl⟩:=hc;have hm2:m=cap:=by rw[hmm];simp
  subst hm2
  have key: ∀i,i<m→ ∃x y:Int,V0 i= ι x∧V1 i= ι y∧inI x∧inI y:=by
   intro i him;obtain⟨h0,h1,h2,h3⟩:=hi i him;obtain⟨x,hx,_,wx⟩:=DataW.trod_int u0 h2;obtain⟨y,hy,_,wy⟩:=DataW.trod_int u1 h3;simp at hx hy;exact⟨x,y,hx,hy,wf_in wx,wf_in wy⟩
  obtain⟨fx,hfx⟩:=Go.Deep.choose_lt (n:=m) (p:=fun i (q:Int×Int)=>V0 i= .int .i64 q.1∧V1 i= .int .i64 q.2∧inI q.1∧inI q.2)
   (fun i him=>by obtain⟨x,y,k⟩:=key i him;exact⟨(x,y),k⟩)
  have hlen:((List.range len).map fx).length=len:=by simp
  refine⟨some a,m,(List.range len).map fx,by rw[hlen],by rw[hlen];exact hl,hm,?_,?_⟩
  ·by_cases h0:len=0
   ·subst h0;exact .inl (by simp[nds])
   ·obtain⟨ab,ao,asp⟩:=a
    have hs:asp=none:=by
     have:=(hi 0 (by omega)).1;rw[Nat.zero_mul]at this;exact spot_none this
    subst hs;refine .inr ⟨ab,ao,rfl,?_,?_⟩
    ·have:=blk_lt (hi 0 (by omega)).1;simpa[Addr.add] using this
    ·intro i v hv
     have hil:i<len*2:=by
      have:=(List.getElem?_eq_some_iff.1 hv).1;rwa[nds_len,hlen]at this
     have hg:=nds_get ((List.range len).map fx) (i / 2) (by rw[hlen];omega);obtain⟨q0,q1,q2,q3⟩:=hi (i / 2) (by omega);obtain⟨r0,r1,_⟩:=hfx (i / 2) (by omega);have hP:nP ((List.range len).map fx) (i / 2)=(fx (i / 2)).1:=by simp[nP,show i / 2<len by omega]
     have hC:nC ((List.range len).map fx) (i / 2)=(fx (i / 2)).2:=by simp[nC,show i / 2<len by omega]
     rw[hP,hC]at hg;rw[r0]at q0;rw[r1]at q1;rw[add_lit']at q0 q1;by_cases hodd:i%2=0
     ·have e:i / 2*2=i:=by omega
      rw[e]at hg q0;rw[hg.1]at hv;injection hv with hv
      rw[q0,hv]
     ·have e:i / 2*2+1=i:=by omega
      rw[e]at hg;rw[e]at q1;rw[hg.2]at hv;injection hv with hv
      rw[q1,hv]
  ·intro i hil;rw[hlen]at hil;obtain⟨_,_,r2,r3⟩:=hfx i (by omega);have hP:nP ((List.range len).map fx) i=(fx i).1:=by simp[nP,hil]
   have hC:nC ((List.range len).map fx) i=(fx i).2:=by simp[nC,hil]
   rw[hP,hC];exact⟨r2,r3⟩
end
end Opn
namespace Fix
open Kap Go.ChangeAt
def inB(x:Int):Bool:=decide (-9223372036854775808≤x∧x≤9223372036854775807)
def numV(x:Int):Int:=if inB x then x else 0
variable {a b n p x:Int}
theorem inB_t(h: -9223372036854775808≤x)(h':x≤9223372036854775807):inB x=true:=by
 unfold inB;simp[h,h']
theorem inB_f(h:x< -9223372036854775808∨9223372036854775807<x):inB x=false:=by
 unfold inB;simp;omega
theorem inB_of(h:inB x=true): -9223372036854775808≤x∧x≤9223372036854775807:=by
 unfold inB at h;simpa using h
theorem numV_t(h:inB x=true):numV x=x:=by unfold numV;simp[h]
theorem numV_f(h:inB x=false):numV x=0:=by unfold numV;simp[h]
def Told(x:Int)(w:Go.World)(e:Ending)(w':Go.World):Prop:=e= .returned (.tuple #[.int .i64 (numV x),.bool (inB x)])∧w=w'
def ToldB(b:Bool)(w:Go.World)(e:Ending)(w':Go.World):Prop:=e= .returned (.bool b)∧w=w'
theorem told_t{w:Go.World}{y:Int}(h: -9223372036854775808≤x)(h':x≤9223372036854775807)(hy:y=x):Told x w (.returned (.tuple #[.int .i64 y,.bool true])) w:=by
 have:=inB_t h h';subst hy;exact⟨by rw[numV_t this,this],rfl⟩
theorem told_f{w:Go.World}(h:x< -9223372036854775808∨9223372036854775807<x):Told x w (.returned (.tuple #[.int .i64 0,.bool false])) w:=by
 have:=inB_f h;exact⟨by rw[numV_f this,this],rfl⟩
theorem told_no{w:Go.World}(h:inB x=false):Told x w (.returned (.tuple #[.int .i64 0,.bool false])) w:=
 ⟨by rw[numV_f h,h],rfl⟩
theorem add_any(a b:Int)(w:Go.World)(ha: -9223372036854775808≤a)(ha':a≤9223372036854775807)(hb: -9223372036854775808≤b)(hb':b≤9223372036854775807):
  Calls Tryz.prog 179 #[.int .i64 a,.int .i64 b] w (Told (a+b) w):=by
 by_cases h1:0<b
 ·by_cases h2:9223372036854775807-b<a
  ·go_enter Tryz.func179,Tryz.ntmps179
   go_wp2
   go_ret2;exact told_f (by omega)
  ·go_enter Tryz.func179,Tryz.ntmps179
   go_wp2
   go_ret2;exact told_t (by omega) (by omega) rfl
 ·by_cases h3:b<0
  ·by_cases h2:a< -9223372036854775808-b
   ·go_enter Tryz.func179,Tryz.ntmps179
    go_wp2
    go_ret2;exact told_f (by omega)
   ·go_enter Tryz.func179,Tryz.ntmps179
    go_wp2
    go_ret2;exact told_t (by omega) (by omega) rfl
  ·obtain rfl:b=0:=by omega
   go_enter Tryz.func179,Tryz.ntmps179
   go_wp2
   go_ret2;exact told_t (by omega) (by omega) (by omega)
theorem wr64(h: -9223372036854775808≤x)(h':x≤9223372036854775807):wrap64 x=x:=by
 unfold wrap64;omega
theorem toldB_mk{p:Prop}[Decidable p]{b:Bool}{w:Go.World}(h:p↔b=true):ToldB b w (.returned (.bool (decide p))) w:=
 ⟨by congr 2;rw[Bool.eq_iff_iff];simpa using h,rfl⟩
theorem inB_iff:inB x=true↔(-9223372036854775808≤x∧x≤9223372036854775807):=by unfold inB;simp
theorem le_quo{q:Int}(hp:0<p):q≤n / p↔p*q≤n:=by
 rw[Int.le_ediv_iff_mul_le hp,Int.mul_comm]
theorem quo_bd(hp:0<p)(hn:0≤n):0≤n / p∧n / p≤n:=
 ⟨Int.ediv_nonneg hn (by omega),Int.ediv_le_self _ hn⟩
theorem tdiv_pos(hn:0≤n):Int.tdiv n p=n / p:=Int.tdiv_eq_ediv_of_nonneg hn
theorem tdiv_neg(hn:0≤n):Int.tdiv n p= -(n / (-p)):=by
 rw[←Int.neg_neg p,Int.tdiv_neg,tdiv_pos hn,Int.neg_neg]
theorem fits_pp(a b:Int)(w:Go.World)(ha:0<a)(ha':a≤9223372036854775807)(hb:0<b)(hb':b≤9223372036854775807):
  Calls Tryz.prog 183 #[.int .i64 a,.int .i64 b] w (ToldB (inB (a*b)) w):=by
 have h1:(a==0)=false:=by simp;omega
 have h2:(b==0)=false:=by simp;omega
 go_enter Tryz.func183,Tryz.ntmps183
 go_wp2
 go_ret;refine toldB_mk ?_;have:=Int.mul_pos ha hb;rw[inB_iff,le_quo hb,Int.mul_comm];omega
theorem fits_pn(a b:Int)(w:Go.World)(ha:0<a)(ha':a≤9223372036854775807)(hb:b<0)(hb': -9223372036854775808≤b):
  Calls Tryz.prog 183 #[.int .i64 a,.int .i64 b] w (ToldB (inB (a*b)) w):=by
 have h1:(a==0)=false:=by simp;omega
 have h2:(b==0)=false:=by simp;omega
 go_enter Tryz.func183,Tryz.ntmps183
 go_wp2
 go_ret;refine toldB_mk ?_;have hq:=quo_bd ha (show(0:Int)≤9223372036854775808 by omega);have hl:=le_quo (q:= -b) (n:=9223372036854775808) ha;have hm:=Int.mul_pos ha (show 0< -b by omega);rw[Int.mul_neg]at hl hm;rw[tdiv_pos (by omega),wr64 (by omega) (by omega),inB_iff];omega
theorem fits_np(a b:Int)(w:Go.World)(ha:a<0)(ha': -9223372036854775808≤a)(hb:0<b)(hb':b≤9223372036854775807):
  Calls Tryz.prog 183 #[.int .i64 a,.int .i64 b] w (ToldB (inB (a*b)) w):=by
 have h1:(a==0)=false:=by simp;omega
 have h2:(b==0)=false:=by simp;omega
 go_enter Tryz.func183,Tryz.ntmps183
 go_wp2
 go_ret;refine toldB_mk ?_;have hq:=quo_bd hb (show(0:Int)≤9223372036854775808 by omega);have hl:=le_quo (q:= -a) (n:=9223372036854775808) hb;have hm:=Int.mul_pos hb (show 0< -a by omega);rw[Int.mul_neg,Int.mul_comm b a]at hl hm;rw[tdiv_pos (by omega),wr64 (by omega) (by omega),inB_iff];omega
theorem fits_nn(a b:Int)(w:Go.World)(ha:a<0)(ha': -9223372036854775808≤a)(hb:b<0)(hb': -9223372036854775808≤b):
  Calls Tryz.prog 183 #[.int .i64 a,.int .i64 b] w (ToldB (inB (a*b)) w):=by
 have h1:(a==0)=false:=by simp;omega
 have h2:(b==0)=false:=by simp;omega
 go_enter Tryz.func183,Tryz.ntmps183
 go_wp2
 go_ret;refine toldB_mk ?_;have hq:=quo_bd (show 0< -b by omega) (show(0:Int)≤9223372036854775807 by omega);have hl:=le_quo (q:= -a) (n:=9223372036854775807) (show 0< -b by omega);have hm:=Int.mul_pos (show 0< -b by omega) (show 0< -a by omega);rw[Int.neg_mul_neg,Int.mul_comm b a]at hl hm;rw[tdiv_neg (by omega),wr64 (by omega) (by omega),inB_iff];omega
theorem fits_z1(b:Int)(w:Go.World):
  Calls Tryz.prog 183 #[.int .i64 0,.int .i64 b] w (ToldB (inB (0*b)) w):=by
 go_enter Tryz.func183,Tryz.ntmps183
 go_wp2
 go_ret;exact⟨by rw[Int.zero_mul];rfl,rfl⟩
theorem fits_z2(a:Int)(w:Go.World)(h1:(a==0)=false):
  Calls Tryz.prog 183 #[.int .i64 a,.int .i64 0] w (ToldB (inB (a*0)) w):=by
 go_enter Tryz.func183,Tryz.ntmps183
 go_wp2
 go_ret;exact⟨by rw[Int.mul_zero];rfl,rfl⟩
theorem fits_any(a b:Int)(w:Go.World)(ha: -9223372036854775808≤a)(ha':a≤9223372036854775807)(hb: -9223372036854775808≤b)(hb':b≤9223372036854775807):
  Calls Tryz.prog 183 #[.int .i64 a,.int .i64 b] w (ToldB (inB (a*b)) w):=by
 by_cases h:a=0
 ·subst h;exact fits_z1 b w
 by_cases h':b=0
 ·subst h';exact fits_z2 a w (by simpa using h)
 by_cases h1:0<a
 ·by_cases h2:0<b
  ·exact fits_pp a b w h1 ha' h2 hb'
  ·exact fits_pn a b w h1 ha' (by omega) hb
 ·by_cases h2:0<b
  ·exact fits_np a b w (by omega) ha h2 hb'
  ·exact fits_nn a b w (by omega) ha (by omega) hb
theorem mul_any(a b:Int)(w:Go.World)(ha: -9223372036854775808≤a)(ha':a≤9223372036854775807)(hb: -9223372036854775808≤b)(hb':b≤9223372036854775807):
  Calls Tryz.prog 174 #[.int .i64 a,.int .i64 b] w (Told (a*b) w):=by
 by_cases h:inB (a*b)=true
 ·obtain⟨h1,h2⟩:=inB_of h
  go_enter Tryz.func174,Tryz.ntmps174
  go_wp2_with (go_at_call 183;refine(fits_any a b _ ha ha' hb hb').mono ?_;rintro e w' ⟨rfl,rfl⟩)
  go_ret2;exact told_t h1 h2 rfl
 ·have h:inB (a*b)=false:=by simpa using h
  go_enter Tryz.func174,Tryz.ntmps174
  go_wp2_with (go_at_call 183;refine(fits_any a b _ ha ha' hb hb').mono ?_;rintro e w' ⟨rfl,rfl⟩)
  go_ret2;exact told_no h
def noB(a b:Int):Bool:=decide (0≤a)&&decide (0≤b)&&inB (a*b)
def noV(a b:Int):Int:=if noB a b then a*b else 0
def ToldN(a b:Int)(w:Go.World)(e:Ending)(w':Go.World):Prop:=e= .returned (.tuple #[.int .i64 (noV a b),.bool (noB a b)])∧w=w'
theorem noB_in(h:0≤a)(h':0≤b):noB a b=inB (a*b):=by unfold noB;simp[h,h']
theorem noV_in(h:0≤a)(h':0≤b):noV a b=numV (a*b):=by unfold noV numV;rw[noB_in h h']
theorem toldN_f{w:Go.World}(h:a<0∨b<0):ToldN a b w (.returned (.tuple #[.int .i64 0,.bool false])) w:=by
 have:noB a b=false:=by unfold noB;rcases h with h|h<;>simp<;>omega
 exact⟨by unfold noV;rw[this];rfl,rfl⟩
theorem toldN_in{w:Go.World}(h:0≤a)(h':0≤b):ToldN a b w (.returned (.tuple #[.int .i64 (numV (a*b)),.bool (inB (a*b))])) w:=
 ⟨by rw[noV_in h h',noB_in h h'],rfl⟩
theorem not_any(a b:Int)(w:Go.World)(ha: -9223372036854775808≤a)(ha':a≤9223372036854775807)(hb: -9223372036854775808≤b)(hb':b≤9223372036854775807):
  Calls Tryz.prog 148 #[.int .i64 a,.int .i64 b] w (ToldN a b w):=by
 by_cases h1:a<0
 ·go_enter Tryz.func148,Tryz.ntmps148
  go_wp2
  go_ret2;exact toldN_f (Or.inl h1)
 ·by_cases h2:b<0
  ·go_enter Tryz.func148,Tryz.ntmps148
   go_wp2
   go_ret2;exact toldN_f (Or.inr h2)
  ·go_enter Tryz.func148,Tryz.ntmps148
   go_wp2_with (first|(go_at_call 174;refine(mul_any _ _ _ ha ha' hb hb').mono ?_;rintro e w' ⟨rfl,rfl⟩))
   go_ret2;exact toldN_in (by omega) (by omega)
end Fix
end Go.Proofs.YtaeddnjjeholgaaGreat
