/- Texts side by side. -/
import Derived.Maps.AppendAt
import Derived.Test.YtaeddnjjeholgaaGreatUgak
set_option linter.unusedVariables false
set_option linter.unusedSimpArgs false
set_option maxRecDepth 100000
set_option maxHeartbeats 16000000
namespace Go.Proofs.YtaeddnjjeholgaaGreat
open Kap Abv Go.ChangeShapes Go.WideShapes Go.ChangeAt Go.RowKit Mem Tre Ref3 Law3 Crd CrdB CrdC Rr4 Bkp Bks Bcl Dlk Stk Apt Bko
namespace Bku
theorem wpList_appA{P:Program}{w:World}{ops:Array Oper}{rest:List Oper}{o:Oper}{a:Act}{Q:Exit→Act→World→Prop}{Bx:Nat}{base:Nat}{e:TypeId}{size n m nm c:Nat}{v:Value}{xs news:List Value}{ad:Addr}
  (hown:Hid (w.ownsRow base e size v n xs))(hr:Hid (Rd w Bx (some ad) news))(hnm:nm=n+m)(hgd:o.guard=none)(s x:Operand)(t:TypeId)
  (ho:o.op= .call {callee:= .builtin .append,args:= #[s,x],argTypes:= #[t,t]})
  (i:TypeInfo)(z:Value)(bytes:Nat)(ht:P.underlying t=some (.slice e))(hi:P.info? e=some i)(hz:i.zero=some z)
  (hsize:i.size=size)(hby:i.bytes=bytes)(hzs:z.cells.size=size)(hsz:0<size)
  (hs:a.eval s=v)(hx:a.eval x= .slice (some ad) m c)(hl:news.length=m*size)(h1: ∀u∈news,u.oneCell'=true)
  (h63:n+m≤maxLen)(hbytes:(n+m)*bytes≤140737488355328)(hbase:base≤w.heap.size)
  (h: ∀A' c' w',Hid (w'.ownsRow base e size (.slice A' nm c') nm (xs++news))→Hid (w.grownBy w' v.ownBlock)→Hid ((Value.slice A' nm c').ownBlock=v.ownBlock∨(Value.slice A' nm c').ownBlock=some w.heap.size)→wpList P ops Q rest (a.put o.dst (.slice A' nm c')) w'):
  wpList P ops Q (o :: rest) a w:=by
 refine wpList_plain hgd fun _ hK=>?_
 subst hnm
 have hnews: ∀j u,news[j]? =some u→w.cell? (ad.add j)=some u:=by
  intro j u hj;rcases hr.out with h|⟨b,o,h,_,hc⟩
  ·subst h;simp at hj
  ·injection h with h
   subst h;rw[show(⟨b,o,none⟩:Addr).add j=⟨b,o+j,none⟩ by unfold Addr.add;split<;>simp_all];exact hc j u hj
 obtain⟨v',w',hrun,hown',hg,_,hob⟩:=run_append_own_at (P:=P) (w:=w) base t o.type e i z size bytes ht hi hz hsize hby hzs hsz v n xs hown.out ad m c news hl hnews h1 h63 hbytes hbase;obtain⟨A',c',rfl,_⟩:=own_form hown';unfold Oper.wp execOp;simp only[ho,resolve,invoke,builtin,Sem.run_bind,Sem.run_pure,Result.andThen_ok,List.map_toArray,List.map_cons,List.map_nil,hs,hx,hrun];exact hK _ _ (h A' c' w' hown' hg hob)
section
variable {w w1 w2:World} {r:Option Nat}
theorem grown_of_below(h:Below w.heap.size w w1):w.grownBy w1 r:=⟨h.os,h.tape,h.output,h.size,fun k hk _=>h.block k hk⟩
theorem grown_trans(h1:w.grownBy w1 r)(h2:w1.grownBy w2 r):w.grownBy w2 r:=
 ⟨h2.os.trans h1.os,h2.tape.trans h1.tape,h2.output.trans h1.output,Nat.le_trans h1.size h2.size,fun k hk hr=>(h2.block k (Nat.lt_of_lt_of_le hk h1.size) hr).trans (h1.block k hk hr)⟩
theorem grown_past{r':Option Nat}(h1:w.grownBy w1 r)(h2:w1.grownBy w2 r')(hg: ∀g,r'=some g→r=some g∨w.heap.size≤g):w.grownBy w2 r:=
 ⟨h2.os.trans h1.os,h2.tape.trans h1.tape,h2.output.trans h1.output,Nat.le_trans h1.size h2.size,fun k hk hr=>(h2.block k (Nat.lt_of_lt_of_le hk h1.size) (fun e=>by
  rcases hg k e.symm with h|h
  ·exact hr h.symm
  ·omega)).trans (h1.block k hk hr)⟩
theorem grown_set(h1:w.grownBy w1 r){g:Nat}(hg:w.heap.size≤g)(i:Nat)(u:Value):w.grownBy (w1.setCell ⟨g,i,none⟩ u) r:=
 ⟨h1.os,h1.tape,h1.output,by simpa[World.setCell] using h1.size,fun k hk hr=>(heap_setCell_other w1 ⟨g,i,none⟩ k u (by show k≠g;omega)).trans (h1.block k hk hr)⟩
end
def MadeUs(base:Nat)(r:Ro)(A:Option Addr)(w:World)(e:Ending)(w':World):Prop:=
 ∃A' c',e= .returned (.agg #[.slice A' r.ns.length c',.int .i64 r.sec,.int .i64 r.cnt])∧Ris w' w'.heap.size A' r.ns∧(∀a,A'=some a→base≤a.block)∧(∀a,A'=some a→(Value.slice A 0 0).ownBlock=some a.block∨w.heap.size≤a.block)∧w.grownBy w' (Value.slice A 0 0).ownBlock
theorem some_ne{a b:Nat}(h:a≠b):some b≠some a:=fun e=>h (Option.some.inj e).symm
theorem ownBlock_len(A:Option Addr)(n c:Nat):(Value.slice A n c).ownBlock=(Value.slice A 0 0).ownBlock:=by cases A<;>rfl
theorem used_any(base:Nat)(A:Option Addr)(n c:Nat)(ns:List Int)(sec cnt:Int)(oa os op oq on ot:Int)(ox:Bool)(wn:Nat)(w:World)(hn:Hid (n=ns.length))(how:Hid (w.ownsRow base 2 1 (.slice A n c) n (ints ns)))(hbase:Hid (base≤w.heap.size))(hl:n≤1000)(hc:Hid (0≤cnt∧cnt≤1000000000))(hwn:wn≤1000):
  Calls Tryz.prog 181 #[.agg #[.slice A n c,.int .i64 sec,.int .i64 cnt],.agg #[.int .i64 oa,.int .i64 os,.bool ox,.int .i64 op,.int .i64 oq,.int .i64 on,.int .i64 ot],.int .i64 (wn:Int)] w (MadeUs base (usedF ⟨ns,sec,cnt⟩ on ot wn) A w):=by
 obtain⟨i0,hi,hz0,hz1,hz2⟩:=info_parts infoI;have b0:Hid (Below w.heap.size w (((w.alloc (.cells (vR A n c sec cnt) 165)).alloc (.cells (vO oa os ox op oq on ot) 51)).alloc (.cells (vR none 0 0 0 0) 165))):=((ψ.alloc τ _).alloc (by simp) _).alloc (by simp<;>omega) _;have K0:Hid (Blk (((w.alloc (.cells (vR A n c sec cnt) 165)).alloc (.cells (vO oa os ox op oq on ot) 51)).alloc (.cells (vR none 0 0 0 0) 165)) w.heap.size 165 (vR A n c sec cnt)):=((Blk.fresh w _ _).alloc _).alloc _;have O0:Hid (Blk (((w.alloc (.cells (vR A n c sec cnt) 165)).alloc (.cells (vO oa os ox op oq on ot) 51)).alloc (.cells (vR none 0 0 0 0) 165)) (w.heap.size+1) 51 (vO oa os ox op oq on ot)):=Blk.alloc (blk_hd (by simp)) _;have Z0:=κ (δ ((w.alloc (.cells (vR A n c sec cnt) 165)).alloc (.cells (vO oa os ox op oq on ot) 51)) 165 (vR none 0 0 0 0) (w.heap.size+2));have tw: ¬((wn:Int)<0):=by omega
 have tw2:(if (0:Int)>(wn:Int) then (0:Int) else (wn:Int))=wn:=by simp;omega
 have tmx: ∀(W:World) ts ty,(Builtin.max_ ts ty (vI (wn:Int) 0)).run Tryz.prog W= .ok (.int .i64 (wn:Int)) W:=by
  intro W ts ty;rw[run_max_int2,tw2]
 have tc:decide (cnt<9223372036854775807)=true:=by have:=hc.out;simp;omega
 have e5:wrap64 (cnt+1)=cnt+1:=by have:=hc.out;unfold wrap64;omega
 go_enter Tryz.func181,Tryz.ntmps181
 go_upto_region 1 with fail
 generalize (((w.alloc (.cells (vR A n c sec cnt) 165)).alloc (.cells (vO oa os ox op oq on ot) 51)).alloc (.cells (vR none 0 0 0 0) 165))=w0 at b0 K0 O0 Z0 ⊢;obtain⟨gr,hgr⟩:=ν w.heap.size;obtain⟨go,hgo⟩:=ν (w.heap.size+1);obtain⟨gz,hgz⟩:=ν (w.heap.size+2);have K1:=κ (ζ hgr K0.out);have O1:=κ (ζ hgo O0.out);have Z1:=κ (ζ hgz Z0.out);simp only[←hgz];simp only[←hgo];simp only[←hgr];have hgrz:Hid (gz≠gr):=by show _≠_;omega
 have hgor:Hid (go≠gr):=by show _≠_;omega
 have hgrL:Hid (w.heap.size≤gr):=by show _≤_;omega
 have hgzL:Hid (w.heap.size≤gz):=by show _≤_;omega
 clear hgo hgr hgz K0 O0 Z0;have W1b:=κ (b0.out.alloc b0.out.size (.cells #[.int .i64 on] 2));have W1h:=own_below how W1b.out;have W1r:Hid (Rd (w0.alloc (.cells #[.int .i64 on] 2)) (w0.alloc (.cells #[.int .i64 on] 2)).heap.size (some ⟨w0.heap.size,0,none⟩) [.int .i64 on]):=rd_new rfl;have W1k:Hid (Blk (w0.alloc (.cells #[.int .i64 on] 2)) gr 165 (vR A n c sec cnt)):=K1.out.alloc _;have W1o:Hid (Blk (w0.alloc (.cells #[.int .i64 on] 2)) go 51 (vO oa os ox op oq on ot)):=O1.out.alloc _;have W1z:Hid (Blk (w0.alloc (.cells #[.int .i64 on] 2)) gz 165 (vR none 0 0 0 0)):=Z1.out.alloc _;have W1s:=κ (Nat.le_trans hbase.out W1b.out.size);obtain⟨n1,hn1⟩:=ν (n+1);have hn1l:n1≤1001:=by omega
 have hn1p:0<n1:=by omega
 have HN1:=κ hn1;clear hn1;obtain⟨k0,k1,k2,f0,f1,f2⟩:=z3_of K1.out;obtain⟨o0,o1,o2,o3,o4,o5,o6⟩:=q7_of O1.out;obtain⟨a0,a1,a2,g0,g9,g2⟩:=z3_of W1k.out
 go_upto_region 2 with(at_builtin;go_loud (refine wpList_appA (nm:=n1) W1h W1r HN1.out rfl _ _ _ rfl i0 (.int .i64 0) 8 Tryz.underlying144 hi hz0 hz1 hz2 rfl (by decide) rfl rfl (by simp) (by simp[Value.oneCell']) (by unfold maxLen;omega) (by omega) W1s.out ?_);intro A1 c1 w1 hown1 hgr1 hob1;have k9:=Blk_grown W1k.out hgr1.out (blk_own_ne W1k.out W1h.out (by decide));obtain⟨p0,p1,p2,q0,q1,q2⟩:=z3_of k9)
 obtain⟨g1,hA1⟩:=own_at hown1.out (by omega);subst hA1;have KR2:=κ (ξ (blk_st k9 0 (.slice (some ⟨g1,0,none⟩) n1 c1)));have KO2:Hid (Blk (w1.setCell ⟨gr,0,none⟩ (.slice (some ⟨g1,0,none⟩) n1 c1)) go 51 (vO oa os ox op oq on ot)):=far_st (Blk_grown W1o.out hgr1.out (blk_own_ne W1o.out W1h.out (by decide))) hgor.out _;have KZ2:Hid (Blk (w1.setCell ⟨gr,0,none⟩ (.slice (some ⟨g1,0,none⟩) n1 c1)) gz 165 (vR none 0 0 0 0)):=far_st (Blk_grown W1z.out hgr1.out (blk_own_ne W1z.out W1h.out (by decide))) hgrz.out _;have HW2:Hid ((w1.setCell ⟨gr,0,none⟩ (.slice (some ⟨g1,0,none⟩) n1 c1)).ownsRow base 2 1 (.slice (some ⟨g1,0,none⟩) n1 c1) n1 (ints ns++[.int .i64 on])):=own_st hown1.out k9 (by decide) 0 _;have G2:Hid (w.grownBy (w1.setCell ⟨gr,0,none⟩ (.slice (some ⟨g1,0,none⟩) n1 c1)) (Value.slice A 0 0).ownBlock):=grown_set (grown_trans (grown_of_below W1b.out) (by have:=hgr1.out;rw[ownBlock_len]at this;exact this)) hgrL.out 0 _
 have HP:Hid ((Value.slice A 0 0).ownBlock=some g1∨w.heap.size≤g1):=by
  rcases hob1.out with h|h
  ·rw[ownBlock_len A]at h;exact .inl h.symm
  ·simp only[Value.ownBlock,Option.some.injEq]at h;exact .inr (by have:=W1b.out.size;omega)
 have HPA:Hid (∀a,some (⟨g1,0,none⟩:Addr)=some a→(Value.slice A 0 0).ownBlock=some a.block∨w.heap.size≤a.block):=by
  intro a ha;have e:=Option.some.inj ha;rw[←e];exact HP.out
 have hne1:g1≠gr:=fun e=>blk_own_ne k9 hown1.out (by decide) (by rw[←e];rfl)
 have hne2:g1≠gz:=fun e=>blk_own_ne (Blk_grown W1z.out hgr1.out (blk_own_ne W1z.out W1h.out (by decide))) hown1.out (by decide) (by rw[←e];rfl)
 have hne3:g1≠go:=fun e=>blk_own_ne (Blk_grown W1o.out hgr1.out (blk_own_ne W1o.out W1h.out (by decide))) hown1.out (by decide) (by rw[←e];rfl)
 have NE:Hid (∀a,some (⟨g1,0,none⟩:Addr)=some a→a.block≠gr∧a.block≠gz):=by
  intro a ha;injection ha with ha
  subst ha;exact⟨hne1,hne2⟩
 have NE3:=κ hne3;have NE1:=κ hne1;have NE2:=κ hne2;have FR:=κ (own_fresh hown1.out);clear k0 k1 k2 f0 f1 f2 o0 o1 o2 o3 o4 o5 o6 a0 a1 a2 g0 g9 g2 p0 p1 p2 q0 q1 q2 k9 W1b W1h W1r W1k W1o W1z W1s hgr1 hob1 hown1 hne1 hne2 hne3 K1 O1 Z1 b0;generalize w1.setCell ⟨gr,0,none⟩ (.slice (some ⟨g1,0,none⟩) n1 c1)=w2 at KR2 KO2 KZ2 HW2 G2 ⊢;obtain⟨k0,k1,k2,f0,f1,f2⟩:=z3_of KR2.out;by_cases hw:wn<n1
 ·obtain⟨k,hk⟩:=ν (n1-wn);have e1:wrap64 ((n1:Int)-(wn:Int))=(n1:Int)-(wn:Int):=by unfold wrap64;omega
  have t2:decide (wn<n1)=true:=by simp;omega
  have hcap:(c1:Int)≤9223372036854775807:=by have:=(own_room HW2.out).2.2.2.1;unfold maxLen at this;omega
  have D:=deleteI g1 n1 c1 0 k (ints ns++[.int .i64 on]) base w2 HW2 (by rw[←ints_snoc];exact ints_one _) (by omega) (by omega) hcap;have hk2:0+(n1-k)=wn:=by omega
  rw[hk2]at D;simp only[Nat.zero_mul,List.take_zero,List.nil_append,Nat.mul_one]at D;rw[←ints_snoc,show(ints (ns++[on])).drop k=ints ((ns++[on]).drop k) from by simp[ints]]at D
  have HNS:Hid (usedF ⟨ns,sec,cnt⟩ on ot wn=⟨(ns++[on]).drop k,ot,(if sec=ot then cnt else 0)+1⟩):=by
   show _=_;unfold usedF;have:ns.length+1-(max (wn:Int) 0).toNat=k:=by have:=hn.out;have:=HN1.out;omega
   simp only[this]
  have HN2:Hid (wn=((ns++[on]).drop k).length):=by show _=_;rw[List.length_drop,List.length_append];simp;have:=hn.out;have:=HN1.out;omega
  generalize (ns++[on]).drop k=ns2 at D HNS HN2;rw[show((0:Nat):Int)=0 from rfl,show((k:Nat):Int)=(n1:Int)-(wn:Int) from by omega]at D;clear hk hk2 tw tw2
  go_upto_region 5 with(go_at_call 187;go_loud (refine D.mono ?_);rintro e w3 ⟨rfl,hrd,hg3⟩;have KR3:=Blk_grown KR2.out hg3 (some_ne NE1.out);obtain⟨p0,p1,p2,q0,q1,q2⟩:=z3_of KR3)
  have HP': ∀g,some g1=some g→(Value.slice A 0 0).ownBlock=some g∨w.heap.size≤g:=fun g hg=>by
   have e:=Option.some.inj hg;rw[←e];exact HP.out
  have G3:=grown_past G2.out hg3 HP';have KR4:=κ (ξ (blk_st KR3 0 (.slice (some ⟨g1,0,none⟩) wn c1)));have KO4:Hid (Blk (w3.setCell ⟨gr,0,none⟩ (.slice (some ⟨g1,0,none⟩) wn c1)) go 51 (vO oa os ox op oq on ot)):=far_st (Blk_grown KO2.out hg3 (some_ne NE3.out)) hgor.out _;have KZ4:Hid (Blk (w3.setCell ⟨gr,0,none⟩ (.slice (some ⟨g1,0,none⟩) wn c1)) gz 165 (vR none 0 0 0 0)):=far_st (Blk_grown KZ2.out hg3 (some_ne NE2.out)) hgrz.out _;have RI4:Hid (Ris (w3.setCell ⟨gr,0,none⟩ (.slice (some ⟨g1,0,none⟩) wn c1)) (w3.setCell ⟨gr,0,none⟩ (.slice (some ⟨g1,0,none⟩) wn c1)).heap.size (some ⟨g1,0,none⟩) ns2):=Rd.keep' hrd (Nat.lt_succ_self _) (fun a ha=>(NE.out a ha).1) _;have G4:Hid (w.grownBy (w3.setCell ⟨gr,0,none⟩ (.slice (some ⟨g1,0,none⟩) wn c1)) (Value.slice A 0 0).ownBlock):=grown_set G3 hgrL.out 0 _;clear k0 k1 k2 f0 f1 f2 p0 p1 p2 q0 q1 q2 KR3 hrd hg3 D KR2 KO2 KZ2 HW2 G2 e1 t2;generalize w3.setCell ⟨gr,0,none⟩ (.slice (some ⟨g1,0,none⟩) wn c1)=w4 at KR4 KO4 KZ4 RI4 G4 ⊢;by_cases hs:sec=ot
  ·have t1:(sec != ot)=false:=by simp[hs]
   have HFIN:Hid (usedF ⟨ns,sec,cnt⟩ on ot wn=⟨ns2,sec,cnt+1⟩):=by show _=_;rw[HNS.out,if_pos hs,←hs]
   clear hs;have KR9:=κ (ξ (blk_st KR4.out 2 (.int .i64 (cnt+1))));have KZ9:Hid (Blk (w4.setCell ⟨gr,2,none⟩ (.int .i64 (cnt+1))) gz 165 (vR none 0 0 0 0)):=far_st KZ4.out hgrz.out _;have RI9:Hid (Ris (w4.setCell ⟨gr,2,none⟩ (.int .i64 (cnt+1))) (w4.setCell ⟨gr,2,none⟩ (.int .i64 (cnt+1))).heap.size (some ⟨g1,0,none⟩) ns2):=Rd.keep' RI4.out (Nat.lt_succ_self _) (fun a ha=>(NE.out a ha).1) _;have G9:Hid (w.grownBy (w4.setCell ⟨gr,2,none⟩ (.int .i64 (cnt+1))) (Value.slice A 0 0).ownBlock):=grown_set G4.out hgrL.out 2 _;obtain⟨k0,k1,k2,f0,f1,f2⟩:=z3_of KR4.out;obtain⟨o0,o1,o2,o3,o4,o5,o6⟩:=q7_of KO4.out
   go_upto_region 9 with fail
   clear k0 k1 k2 f0 f1 f2 o0 o1 o2 o3 o4 o5 o6;generalize (w4.setCell ⟨gr,2,none⟩ (.int .i64 (cnt+1)))=w9 at KR9 KZ9 RI9 G9 ⊢;have F3:Blk (st3 w9 gz (.slice (some ⟨g1,0,none⟩) wn c1) (.int .i64 sec) (.int .i64 (cnt+1))) gz 165 #[.slice (some ⟨g1,0,none⟩) wn c1,(.int .i64 sec),(.int .i64 (cnt+1))]:=st3_blk KZ9.out
   have hfin:MadeUs base (usedF ⟨ns,sec,cnt⟩ on ot wn) A w (.returned (.agg #[.slice (some ⟨g1,0,none⟩) wn c1,(.int .i64 sec),(.int .i64 (cnt+1))])) (st3 w9 gz (.slice (some ⟨g1,0,none⟩) wn c1) (.int .i64 sec) (.int .i64 (cnt+1))):=by
    refine⟨(some ⟨g1,0,none⟩),c1,?_,?_,FR.out,HPA.out,?_⟩
    ·rw[HFIN.out,HN2.out]
    ·rw[HFIN.out];unfold st3;exact Rd.keep' (Rd.keep' (Rd.keep' RI9.out (Nat.lt_succ_self _) (fun a ha=>(NE.out a ha).2) _) (Nat.lt_succ_self _) (fun a ha=>(NE.out a ha).2) _) (Nat.lt_succ_self _) (fun a ha=>(NE.out a ha).2) _
    ·exact grown_set (grown_set (grown_set G9.out hgzL.out 0 _) hgzL.out 1 _) hgzL.out 2 _
   have HF:=κ hfin;clear hfin;obtain⟨k0,k1,k2⟩:=q3_of KR9.out;obtain⟨z0,z1,z2,f0,f1,f2⟩:=z3_of KZ9.out
   go_wp2_with fail
   obtain⟨d0,d1,d2⟩:=q3_of F3;clear F3;unfold st3 at d0 d1 d2 HF;exact bodyPost_ret (v:= .agg #[.slice (some ⟨g1,0,none⟩) wn c1,(.int .i64 sec),(.int .i64 (cnt+1))]) (by simp[results,Tryz.results181,go_sem,d0,d1,d2]) rfl HF.out
  ·have t1:(sec != ot)=true:=by simp[hs]
   have HFIN:Hid (usedF ⟨ns,sec,cnt⟩ on ot wn=⟨ns2,ot,1⟩):=by show _=_;rw[HNS.out,if_neg hs];rfl
   clear hs;have KR8:=κ (ξ (blk_st KR4.out 1 (.int .i64 ot)));have KR7:=κ (ξ (blk_st KR8.out 2 (.int .i64 0)));have KZ7:Hid (Blk ((w4.setCell ⟨gr,1,none⟩ (.int .i64 ot)).setCell ⟨gr,2,none⟩ (.int .i64 0)) gz 165 (vR none 0 0 0 0)):=far_st (far_st KZ4.out hgrz.out _) hgrz.out _;have RI7:Hid (Ris ((w4.setCell ⟨gr,1,none⟩ (.int .i64 ot)).setCell ⟨gr,2,none⟩ (.int .i64 0)) ((w4.setCell ⟨gr,1,none⟩ (.int .i64 ot)).setCell ⟨gr,2,none⟩ (.int .i64 0)).heap.size (some ⟨g1,0,none⟩) ns2):=Rd.keep' (Rd.keep' RI4.out (Nat.lt_succ_self _) (fun a ha=>(NE.out a ha).1) _) (Nat.lt_succ_self _) (fun a ha=>(NE.out a ha).1) _;have G7:Hid (w.grownBy ((w4.setCell ⟨gr,1,none⟩ (.int .i64 ot)).setCell ⟨gr,2,none⟩ (.int .i64 0)) (Value.slice A 0 0).ownBlock):=grown_set (grown_set G4.out hgrL.out 1 _) hgrL.out 2 _;obtain⟨k0,k1,k2,f0,f1,f2⟩:=z3_of KR4.out;obtain⟨o0,o1,o2,o3,o4,o5,o6⟩:=q7_of KO4.out
   go_upto_region 7 with fail
   clear k0 k1 k2 f0 f1 f2 o0 o1 o2 o3 o4 o5 o6 KR8;generalize ((w4.setCell ⟨gr,1,none⟩ (.int .i64 ot)).setCell ⟨gr,2,none⟩ (.int .i64 0))=w7 at KR7 KZ7 RI7 G7 ⊢;have KR9:=κ (ξ (blk_st KR7.out 2 (.int .i64 1)));have KZ9:Hid (Blk (w7.setCell ⟨gr,2,none⟩ (.int .i64 1)) gz 165 (vR none 0 0 0 0)):=far_st KZ7.out hgrz.out _;have RI9:Hid (Ris (w7.setCell ⟨gr,2,none⟩ (.int .i64 1)) (w7.setCell ⟨gr,2,none⟩ (.int .i64 1)).heap.size (some ⟨g1,0,none⟩) ns2):=Rd.keep' RI7.out (Nat.lt_succ_self _) (fun a ha=>(NE.out a ha).1) _;have G9:Hid (w.grownBy (w7.setCell ⟨gr,2,none⟩ (.int .i64 1)) (Value.slice A 0 0).ownBlock):=grown_set G7.out hgrL.out 2 _;obtain⟨k0,k1,k2,f0,f1,f2⟩:=z3_of KR7.out
   go_upto_region 9 with fail
   clear k0 k1 k2 f0 f1 f2 KR7 KZ7 RI7 G7;generalize w7.setCell ⟨gr,2,none⟩ (.int .i64 1)=w9 at KR9 KZ9 RI9 G9 ⊢;have F3:Blk (st3 w9 gz (.slice (some ⟨g1,0,none⟩) wn c1) (.int .i64 ot) (.int .i64 1)) gz 165 #[.slice (some ⟨g1,0,none⟩) wn c1,(.int .i64 ot),(.int .i64 1)]:=st3_blk KZ9.out
   have hfin:MadeUs base (usedF ⟨ns,sec,cnt⟩ on ot wn) A w (.returned (.agg #[.slice (some ⟨g1,0,none⟩) wn c1,(.int .i64 ot),(.int .i64 1)])) (st3 w9 gz (.slice (some ⟨g1,0,none⟩) wn c1) (.int .i64 ot) (.int .i64 1)):=by
    refine⟨(some ⟨g1,0,none⟩),c1,?_,?_,FR.out,HPA.out,?_⟩
    ·rw[HFIN.out,HN2.out]
    ·rw[HFIN.out];unfold st3;exact Rd.keep' (Rd.keep' (Rd.keep' RI9.out (Nat.lt_succ_self _) (fun a ha=>(NE.out a ha).2) _) (Nat.lt_succ_self _) (fun a ha=>(NE.out a ha).2) _) (Nat.lt_succ_self _) (fun a ha=>(NE.out a ha).2) _
    ·exact grown_set (grown_set (grown_set G9.out hgzL.out 0 _) hgzL.out 1 _) hgzL.out 2 _
   have HF:=κ hfin;clear hfin;obtain⟨k0,k1,k2⟩:=q3_of KR9.out;obtain⟨z0,z1,z2,f0,f1,f2⟩:=z3_of KZ9.out
   go_wp2_with fail
   obtain⟨d0,d1,d2⟩:=q3_of F3;clear F3;unfold st3 at d0 d1 d2 HF;exact bodyPost_ret (v:= .agg #[.slice (some ⟨g1,0,none⟩) wn c1,(.int .i64 ot),(.int .i64 1)]) (by simp[results,Tryz.results181,go_sem,d0,d1,d2]) rfl HF.out
 ·have e1:wrap64 ((n1:Int)-(wn:Int))=(n1:Int)-(wn:Int):=by unfold wrap64;omega
  have t2:decide (wn<n1)=false:=by simp;omega
  have HNS:Hid (usedF ⟨ns,sec,cnt⟩ on ot wn=⟨ns++[on],ot,(if sec=ot then cnt else 0)+1⟩):=by
   show _=_;unfold usedF;have:ns.length+1-(max (wn:Int) 0).toNat=0:=by have:=hn.out;have:=HN1.out;omega
   simp only[this,List.drop_zero]
  have HN2:Hid (n1=(ns++[on]).length):=by show _=_;rw[List.length_append];simp;have:=hn.out;have:=HN1.out;omega
  have RI2:Hid (Ris w2 w2.heap.size (some ⟨g1,0,none⟩) (ns++[on])):=by
   show Rd _ _ _ _;rw[ints_snoc];exact Rd.of_own HW2.out
  generalize ns++[on]=ns2 at HNS HN2 RI2
  go_upto_region 5 with fail
  clear k0 k1 k2 f0 f1 f2 HW2 e1 t2 hw;by_cases hs:sec=ot
  ·have t1:(sec != ot)=false:=by simp[hs]
   have HFIN:Hid (usedF ⟨ns,sec,cnt⟩ on ot wn=⟨ns2,sec,cnt+1⟩):=by show _=_;rw[HNS.out,if_pos hs,←hs]
   clear hs;have KR9:=κ (ξ (blk_st KR2.out 2 (.int .i64 (cnt+1))));have KZ9:Hid (Blk (w2.setCell ⟨gr,2,none⟩ (.int .i64 (cnt+1))) gz 165 (vR none 0 0 0 0)):=far_st KZ2.out hgrz.out _;have RI9:Hid (Ris (w2.setCell ⟨gr,2,none⟩ (.int .i64 (cnt+1))) (w2.setCell ⟨gr,2,none⟩ (.int .i64 (cnt+1))).heap.size (some ⟨g1,0,none⟩) ns2):=Rd.keep' RI2.out (Nat.lt_succ_self _) (fun a ha=>(NE.out a ha).1) _;have G9:Hid (w.grownBy (w2.setCell ⟨gr,2,none⟩ (.int .i64 (cnt+1))) (Value.slice A 0 0).ownBlock):=grown_set G2.out hgrL.out 2 _;obtain⟨k0,k1,k2,f0,f1,f2⟩:=z3_of KR2.out;obtain⟨o0,o1,o2,o3,o4,o5,o6⟩:=q7_of KO2.out
   go_upto_region 9 with fail
   clear k0 k1 k2 f0 f1 f2 o0 o1 o2 o3 o4 o5 o6;generalize (w2.setCell ⟨gr,2,none⟩ (.int .i64 (cnt+1)))=w9 at KR9 KZ9 RI9 G9 ⊢;have F3:Blk (st3 w9 gz (.slice (some ⟨g1,0,none⟩) n1 c1) (.int .i64 sec) (.int .i64 (cnt+1))) gz 165 #[.slice (some ⟨g1,0,none⟩) n1 c1,(.int .i64 sec),(.int .i64 (cnt+1))]:=st3_blk KZ9.out
   have hfin:MadeUs base (usedF ⟨ns,sec,cnt⟩ on ot wn) A w (.returned (.agg #[.slice (some ⟨g1,0,none⟩) n1 c1,(.int .i64 sec),(.int .i64 (cnt+1))])) (st3 w9 gz (.slice (some ⟨g1,0,none⟩) n1 c1) (.int .i64 sec) (.int .i64 (cnt+1))):=by
    refine⟨(some ⟨g1,0,none⟩),c1,?_,?_,FR.out,HPA.out,?_⟩
    ·rw[HFIN.out,HN2.out]
    ·rw[HFIN.out];unfold st3;exact Rd.keep' (Rd.keep' (Rd.keep' RI9.out (Nat.lt_succ_self _) (fun a ha=>(NE.out a ha).2) _) (Nat.lt_succ_self _) (fun a ha=>(NE.out a ha).2) _) (Nat.lt_succ_self _) (fun a ha=>(NE.out a ha).2) _
    ·exact grown_set (grown_set (grown_set G9.out hgzL.out 0 _) hgzL.out 1 _) hgzL.out 2 _
   have HF:=κ hfin;clear hfin;obtain⟨k0,k1,k2⟩:=q3_of KR9.out;obtain⟨z0,z1,z2,f0,f1,f2⟩:=z3_of KZ9.out
   go_wp2_with fail
   obtain⟨d0,d1,d2⟩:=q3_of F3;clear F3;unfold st3 at d0 d1 d2 HF;exact bodyPost_ret (v:= .agg #[.slice (some ⟨g1,0,none⟩) n1 c1,(.int .i64 sec),(.int .i64 (cnt+1))]) (by simp[results,Tryz.results181,go_sem,d0,d1,d2]) rfl HF.out
  ·have t1:(sec != ot)=true:=by simp[hs]
   have HFIN:Hid (usedF ⟨ns,sec,cnt⟩ on ot wn=⟨ns2,ot,1⟩):=by show _=_;rw[HNS.out,if_neg hs];rfl
   clear hs;have KR8:=κ (ξ (blk_st KR2.out 1 (.int .i64 ot)));have KR7:=κ (ξ (blk_st KR8.out 2 (.int .i64 0)));have KZ7:Hid (Blk ((w2.setCell ⟨gr,1,none⟩ (.int .i64 ot)).setCell ⟨gr,2,none⟩ (.int .i64 0)) gz 165 (vR none 0 0 0 0)):=far_st (far_st KZ2.out hgrz.out _) hgrz.out _;have RI7:Hid (Ris ((w2.setCell ⟨gr,1,none⟩ (.int .i64 ot)).setCell ⟨gr,2,none⟩ (.int .i64 0)) ((w2.setCell ⟨gr,1,none⟩ (.int .i64 ot)).setCell ⟨gr,2,none⟩ (.int .i64 0)).heap.size (some ⟨g1,0,none⟩) ns2):=Rd.keep' (Rd.keep' RI2.out (Nat.lt_succ_self _) (fun a ha=>(NE.out a ha).1) _) (Nat.lt_succ_self _) (fun a ha=>(NE.out a ha).1) _;have G7:Hid (w.grownBy ((w2.setCell ⟨gr,1,none⟩ (.int .i64 ot)).setCell ⟨gr,2,none⟩ (.int .i64 0)) (Value.slice A 0 0).ownBlock):=grown_set (grown_set G2.out hgrL.out 1 _) hgrL.out 2 _;obtain⟨k0,k1,k2,f0,f1,f2⟩:=z3_of KR2.out;obtain⟨o0,o1,o2,o3,o4,o5,o6⟩:=q7_of KO2.out
   go_upto_region 7 with fail
   clear k0 k1 k2 f0 f1 f2 o0 o1 o2 o3 o4 o5 o6 KR8;generalize ((w2.setCell ⟨gr,1,none⟩ (.int .i64 ot)).setCell ⟨gr,2,none⟩ (.int .i64 0))=w7 at KR7 KZ7 RI7 G7 ⊢;have KR9:=κ (ξ (blk_st KR7.out 2 (.int .i64 1)));have KZ9:Hid (Blk (w7.setCell ⟨gr,2,none⟩ (.int .i64 1)) gz 165 (vR none 0 0 0 0)):=far_st KZ7.out hgrz.out _;have RI9:Hid (Ris (w7.setCell ⟨gr,2,none⟩ (.int .i64 1)) (w7.setCell ⟨gr,2,none⟩ (.int .i64 1)).heap.size (some ⟨g1,0,none⟩) ns2):=Rd.keep' RI7.out (Nat.lt_succ_self _) (fun a ha=>(NE.out a ha).1) _;have G9:Hid (w.grownBy (w7.setCell ⟨gr,2,none⟩ (.int .i64 1)) (Value.slice A 0 0).ownBlock):=grown_set G7.out hgrL.out 2 _;obtain⟨k0,k1,k2,f0,f1,f2⟩:=z3_of KR7.out
   go_upto_region 9 with fail
   clear k0 k1 k2 f0 f1 f2 KR7 KZ7 RI7 G7;generalize w7.setCell ⟨gr,2,none⟩ (.int .i64 1)=w9 at KR9 KZ9 RI9 G9 ⊢;have F3:Blk (st3 w9 gz (.slice (some ⟨g1,0,none⟩) n1 c1) (.int .i64 ot) (.int .i64 1)) gz 165 #[.slice (some ⟨g1,0,none⟩) n1 c1,(.int .i64 ot),(.int .i64 1)]:=st3_blk KZ9.out
   have hfin:MadeUs base (usedF ⟨ns,sec,cnt⟩ on ot wn) A w (.returned (.agg #[.slice (some ⟨g1,0,none⟩) n1 c1,(.int .i64 ot),(.int .i64 1)])) (st3 w9 gz (.slice (some ⟨g1,0,none⟩) n1 c1) (.int .i64 ot) (.int .i64 1)):=by
    refine⟨(some ⟨g1,0,none⟩),c1,?_,?_,FR.out,HPA.out,?_⟩
    ·rw[HFIN.out,HN2.out]
    ·rw[HFIN.out];unfold st3;exact Rd.keep' (Rd.keep' (Rd.keep' RI9.out (Nat.lt_succ_self _) (fun a ha=>(NE.out a ha).2) _) (Nat.lt_succ_self _) (fun a ha=>(NE.out a ha).2) _) (Nat.lt_succ_self _) (fun a ha=>(NE.out a ha).2) _
    ·exact grown_set (grown_set (grown_set G9.out hgzL.out 0 _) hgzL.out 1 _) hgzL.out 2 _
   have HF:=κ hfin;clear hfin;obtain⟨k0,k1,k2⟩:=q3_of KR9.out;obtain⟨z0,z1,z2,f0,f1,f2⟩:=z3_of KZ9.out
   go_wp2_with fail
   obtain⟨d0,d1,d2⟩:=q3_of F3;clear F3;unfold st3 at d0 d1 d2 HF;exact bodyPost_ret (v:= .agg #[.slice (some ⟨g1,0,none⟩) n1 c1,(.int .i64 ot),(.int .i64 1)]) (by simp[results,Tryz.results181,go_sem,d0,d1,d2]) rfl HF.out
end Bku
end Go.Proofs.YtaeddnjjeholgaaGreat
