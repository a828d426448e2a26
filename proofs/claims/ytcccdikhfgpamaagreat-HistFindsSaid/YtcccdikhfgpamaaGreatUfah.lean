/- Texts side by side. -/
import Derived.Maps.AppendAt
import Derived.Test.YtcccdikhfgpamaaGreatUfag
set_option linter.unusedVariables false
set_option linter.unusedSimpArgs false
set_option maxRecDepth 100000
set_option maxHeartbeats 16000000
namespace Go.Proofs.YtcccdikhfgpamaaGreat
open Kap Abv Go.ChangeShapes Go.WideShapes Go.ChangeAt Go.RowKit Mem Tre Ref3 Law3 Crd CrdB CrdC Rr4 Bkp Bks Bcl Dlk Stk Apt Bko
namespace Bku
theorem wpList_appA{P:Program}{w:World}{ops:Array Oper}{rest:List Oper}{o:Oper}{a:Act}{Q:Exit→Act→World→Prop}{Bx:Nat}{base:Nat}{e:TypeId}{size n m nm c:Nat}{v:Value}{xs news:List Value}{ad:Addr}
  (hown:Hid (w.ownsRow base e size v n xs))(hr:Hid (Rd w Bx (some ad) news))(hnm:nm=n+m)(hgd:o.guard=none)(s x:Operand)(t:TypeId)
  (ho:o.op= .call {callee:= .builtin .append,args:= #[s,x],argTypes:= #[t,t]})
  (i:TypeInfo)(z:Value)(bytes:Nat)(ht:P.underlying t=some (.slice e))(hi:P.info? e=some i)(hz:i.zero=some z)
  (hsize:i.size=size)(hby:i.bytes=bytes)(hzs:z.cells.size=size)(hsz:0<size)
  (hs:a.eval s=v)(hx:a.eval x= .slice (some ad) m c)(hl:news.length=m*size)(h1: ∀u∈news,u.oneCell'=true)
  (h63:n+m≤maxLen)(hbytes:(n+m)*bytes≤140737488355328)(hbase:base≤w.heap.size)
  (h: ∀A' c' w',Hid (w'.ownsRow base e size (.slice A' nm c') nm (xs++news))→Hid (w.grownBy w' v.ownBlock)→Hid ((Value.slice A' nm c').ownBlock=v.ownBlock∨(Value.slice A' nm c').ownBlock=some w.heap.size)→wpList P ops Q rest (a.put o.dst (.slice A' nm c')) w'):
  wpList P ops Q (o :: rest) a w:=by
 refine wpList_plain hgd fun _ p=>?_
 subst hnm
 have f: ∀j u,news[j]? =some u→w.cell? (ad.add j)=some u:=by
  intro j u l;rcases hr.o with h|⟨b,o,h,_,hc⟩
  ·subst h;simp at l
  ·injection h with h
   subst h;rw[show(⟨b,o,none⟩:Addr).add j=⟨b,o+j,none⟩ by unfold Addr.add;split<;>simp_all];exact hc j u l
 obtain⟨y,w',g,d,q,_,k⟩:=run_append_own_at (P:=P) (w:=w) base t o.type e i z size bytes ht hi hz hsize hby hzs hsz v n xs hown.o ad m c news hl f h1 h63 hbytes hbase;obtain⟨A',c',rfl,_⟩:=own_form d;unfold Oper.wp execOp;simp only[ho,resolve,invoke,builtin,Sem.run_bind,Sem.run_pure,Result.andThen_ok,List.map_toArray,List.map_cons,List.map_nil,hs,hx,g];exact p _ _ (h A' c' w' d q k)
section
variable {w w1 w2:World} {r:Option Nat}
theorem grown_of_below(h:Below w.heap.size w w1):w.grownBy w1 r:=⟨h.os,h.tape,h.output,h.size,fun k a _=>h.block k a⟩
theorem grown_trans(h1:w.grownBy w1 r)(h2:w1.grownBy w2 r):w.grownBy w2 r:=
 ⟨h2.os.trans h1.os,h2.tape.trans h1.tape,h2.output.trans h1.output,Nat.le_trans h1.size h2.size,fun k a b=>(h2.block k (Nat.lt_of_lt_of_le a h1.size) b).trans (h1.block k a b)⟩
theorem grown_past{r':Option Nat}(h1:w.grownBy w1 r)(h2:w1.grownBy w2 r')(hg: ∀g,r'=some g→r=some g∨w.heap.size≤g):w.grownBy w2 r:=
 ⟨h2.os.trans h1.os,h2.tape.trans h1.tape,h2.output.trans h1.output,Nat.le_trans h1.size h2.size,fun k a b=>(h2.block k (Nat.lt_of_lt_of_le a h1.size) (fun e=>by
  rcases hg k e.symm with h|h
  ·exact b h.symm
  ·omega)).trans (h1.block k a b)⟩
theorem grown_set(h1:w.grownBy w1 r){g:Nat}(hg:w.heap.size≤g)(i:Nat)(u:Value):w.grownBy (w1.setCell ⟨g,i,none⟩ u) r:=
 ⟨h1.os,h1.tape,h1.output,by simpa[World.setCell] using h1.size,fun k a b=>(heap_setCell_other w1 ⟨g,i,none⟩ k u (by show k≠g;omega)).trans (h1.block k a b)⟩
end
def MadeUs(base:Nat)(r:Ro)(A:Option Addr)(w:World)(e:Ending)(w':World):Prop:=
 ∃A' c',e= .returned (.agg #[.slice A' r.ns.length c',.int .i64 r.sec,.int .i64 r.cnt])∧Ris w' w'.heap.size A' r.ns∧(∀a,A'=some a→base≤a.block)∧(∀a,A'=some a→(Value.slice A 0 0).ownBlock=some a.block∨w.heap.size≤a.block)∧w.grownBy w' (Value.slice A 0 0).ownBlock
theorem some_ne{a b:Nat}(h:a≠b):some b≠some a:=fun e=>h (Option.some.inj e).symm
theorem ownBlock_len(A:Option Addr)(n c:Nat):(Value.slice A n c).ownBlock=(Value.slice A 0 0).ownBlock:=by cases A<;>rfl
theorem used_any(base:Nat)(A:Option Addr)(n c:Nat)(ns:List Int)(sec cnt:Int)(oa os op oq on ot:Int)(ox:Bool)(wn:Nat)(w:World)(hn:Hid (n=ns.length))(how:Hid (w.ownsRow base 2 1 (.slice A n c) n (ints ns)))(hbase:Hid (base≤w.heap.size))(hl:n≤1000)(hc:Hid (0≤cnt∧cnt≤1000000000))(hwn:wn≤1000):
  Calls Tryz.prog 137 #[.agg #[.slice A n c,.int .i64 sec,.int .i64 cnt],.agg #[.int .i64 oa,.int .i64 os,.bool ox,.int .i64 op,.int .i64 oq,.int .i64 on,.int .i64 ot],.int .i64 (wn:Int)] w (MadeUs base (usedF ⟨ns,sec,cnt⟩ on ot wn) A w):=by
 obtain⟨i0,hi,aD,aE,aF⟩:=info_parts infoI;have b0:Hid (Below w.heap.size w (((w.alloc (.cells (vR A n c sec cnt) 243)).alloc (.cells (vO oa os ox op oq on ot) 75)).alloc (.cells (vR none 0 0 0 0) 243))):=((ψ.alloc τ _).alloc (by simp) _).alloc (by simp<;>omega) _;have K0:Hid (Blk (((w.alloc (.cells (vR A n c sec cnt) 243)).alloc (.cells (vO oa os ox op oq on ot) 75)).alloc (.cells (vR none 0 0 0 0) 243)) w.heap.size 243 (vR A n c sec cnt)):=((Blk.fresh w _ _).alloc _).alloc _;have O0:Hid (Blk (((w.alloc (.cells (vR A n c sec cnt) 243)).alloc (.cells (vO oa os ox op oq on ot) 75)).alloc (.cells (vR none 0 0 0 0) 243)) (w.heap.size+1) 75 (vO oa os ox op oq on ot)):=Blk.alloc (blk_hd (by simp)) _;have Z0:=κ (δ ((w.alloc (.cells (vR A n c sec cnt) 243)).alloc (.cells (vO oa os ox op oq on ot) 75)) 243 (vR none 0 0 0 0) (w.heap.size+2));have tw: ¬((wn:Int)<0):=by omega
 have au:(if (0:Int)>(wn:Int) then (0:Int) else (wn:Int))=wn:=by simp;omega
 have aM: ∀(W:World) ts ty,(Builtin.max_ ts ty (vI (wn:Int) 0)).run Tryz.prog W= .ok (.int .i64 (wn:Int)) W:=by
  intro W ts ty;rw[run_max_int2,au]
 have tc:decide (cnt<9223372036854775807)=true:=by have:=hc.o;simp;omega
 have e5:wrap64 (cnt+1)=cnt+1:=by have:=hc.o;unfold wrap64;omega
 go_enter Tryz.func137,Tryz.ntmps137
 go_upto_region 1 with fail
 generalize (((w.alloc (.cells (vR A n c sec cnt) 243)).alloc (.cells (vO oa os ox op oq on ot) 75)).alloc (.cells (vR none 0 0 0 0) 243))=w0 at b0 K0 O0 Z0 ⊢;obtain⟨b,ai⟩:=ν w.heap.size;obtain⟨go,aj⟩:=ν (w.heap.size+1);obtain⟨x,ak⟩:=ν (w.heap.size+2);have K1:=κ (ζ ai K0.o);have O1:=κ (ζ aj O0.o);have Z1:=κ (ζ ak Z0.o);simp only[←ak];simp only[←aj];simp only[←ai];have p:Hid (x≠b):=by show _≠_;omega
 have av:Hid (go≠b):=by show _≠_;omega
 have q:Hid (w.heap.size≤b):=by show _≤_;omega
 have j:Hid (w.heap.size≤x):=by show _≤_;omega
 clear aj ai ak K0 O0 Z0;have X:=κ (b0.o.alloc b0.o.size (.cells #[.int .i64 on] 2));have Q:=own_below how X.o;have aw:Hid (Rd (w0.alloc (.cells #[.int .i64 on] 2)) (w0.alloc (.cells #[.int .i64 on] 2)).heap.size (some ⟨w0.heap.size,0,none⟩) [.int .i64 on]):=rd_new rfl;have ag:Hid (Blk (w0.alloc (.cells #[.int .i64 on] 2)) b 243 (vR A n c sec cnt)):=K1.o.alloc _;have Y:Hid (Blk (w0.alloc (.cells #[.int .i64 on] 2)) go 75 (vO oa os ox op oq on ot)):=O1.o.alloc _;have Z:Hid (Blk (w0.alloc (.cells #[.int .i64 on] 2)) x 243 (vR none 0 0 0 0)):=Z1.o.alloc _;have ax:=κ (Nat.le_trans hbase.o X.o.size);obtain⟨o,ay⟩:=ν (n+1);have aN:o≤1001:=by omega
 have aO:0<o:=by omega
 have aa:=κ ay;clear ay;obtain⟨G,H,I,J,K,L⟩:=z3_of K1.o;obtain⟨o0,o1,o2,o3,o4,o5,o6⟩:=q7_of O1.o;obtain⟨a0,a1,a2,g0,g9,g2⟩:=z3_of ag.o
 go_upto_region 2 with(at_builtin;go_loud (refine wpList_appA (nm:=o) Q aw aa.o rfl _ _ _ rfl i0 (.int .i64 0) 8 Tryz.underlying112 hi aD aE aF rfl (by decide) rfl rfl (by simp) (by simp[Value.oneCell']) (by unfold maxLen;omega) (by omega) ax.o ?_);intro A1 i w1 s z az;have k9:=Blk_grown ag.o z.o (blk_own_ne ag.o Q.o (by decide));obtain⟨p0,p1,p2,q0,q1,q2⟩:=z3_of k9)
 obtain⟨d,aG⟩:=own_at s.o (by omega);subst aG;have P:=κ (ξ (blk_st k9 0 (.slice (some ⟨d,0,none⟩) o i)));have ab:Hid (Blk (w1.setCell ⟨b,0,none⟩ (.slice (some ⟨d,0,none⟩) o i)) go 75 (vO oa os ox op oq on ot)):=far_st (Blk_grown Y.o z.o (blk_own_ne Y.o Q.o (by decide))) av.o _;have ac:Hid (Blk (w1.setCell ⟨b,0,none⟩ (.slice (some ⟨d,0,none⟩) o i)) x 243 (vR none 0 0 0 0)):=far_st (Blk_grown Z.o z.o (blk_own_ne Z.o Q.o (by decide))) p.o _;have V:Hid ((w1.setCell ⟨b,0,none⟩ (.slice (some ⟨d,0,none⟩) o i)).ownsRow base 2 1 (.slice (some ⟨d,0,none⟩) o i) o (ints ns++[.int .i64 on])):=own_st s.o k9 (by decide) 0 _;have G2:Hid (w.grownBy (w1.setCell ⟨b,0,none⟩ (.slice (some ⟨d,0,none⟩) o i)) (Value.slice A 0 0).ownBlock):=grown_set (grown_trans (grown_of_below X.o) (by have:=z.o;rw[ownBlock_len]at this;exact this)) q.o 0 _
 have HP:Hid ((Value.slice A 0 0).ownBlock=some d∨w.heap.size≤d):=by
  rcases az.o with h|h
  ·rw[ownBlock_len A]at h;exact .inl h.symm
  ·simp only[Value.ownBlock,Option.some.injEq]at h;exact .inr (by have:=X.o.size;omega)
 have ah:Hid (∀a,some (⟨d,0,none⟩:Addr)=some a→(Value.slice A 0 0).ownBlock=some a.block∨w.heap.size≤a.block):=by
  intro a f;have e:=Option.some.inj f;rw[←e];exact HP.o
 have al:d≠b:=fun e=>blk_own_ne k9 s.o (by decide) (by rw[←e];rfl)
 have am:d≠x:=fun e=>blk_own_ne (Blk_grown Z.o z.o (blk_own_ne Z.o Q.o (by decide))) s.o (by decide) (by rw[←e];rfl)
 have aA:d≠go:=fun e=>blk_own_ne (Blk_grown Y.o z.o (blk_own_ne Y.o Q.o (by decide))) s.o (by decide) (by rw[←e];rfl)
 have F:Hid (∀a,some (⟨d,0,none⟩:Addr)=some a→a.block≠b∧a.block≠x):=by
  intro a f;injection f with f
  subst f;exact⟨al,am⟩
 have aH:=κ aA;have aI:=κ al;have aJ:=κ am;have FR:=κ (own_fresh s.o);clear G H I J K L o0 o1 o2 o3 o4 o5 o6 a0 a1 a2 g0 g9 g2 p0 p1 p2 q0 q1 q2 k9 X Q aw ag Y Z ax z az s al am aA K1 O1 Z1 b0;generalize w1.setCell ⟨b,0,none⟩ (.slice (some ⟨d,0,none⟩) o i)=w2 at P ab ac V G2 ⊢;obtain⟨G,H,I,J,K,L⟩:=z3_of P.o;by_cases hw:wn<o
 ·obtain⟨k,hk⟩:=ν (o-wn);have e1:wrap64 ((o:Int)-(wn:Int))=(o:Int)-(wn:Int):=by unfold wrap64;omega
  have t2:decide (wn<o)=true:=by simp;omega
  have aK:(i:Int)≤9223372036854775807:=by have:=(own_room V.o).2.2.2.1;unfold maxLen at this;omega
  have D:=deleteI d o i 0 k (ints ns++[.int .i64 on]) base w2 V (by rw[←ints_snoc];exact ints_one _) (by omega) (by omega) aK;have aB:0+(o-k)=wn:=by omega
  rw[aB]at D;simp only[Nat.zero_mul,List.take_zero,List.nil_append,Nat.mul_one]at D;rw[←ints_snoc,show(ints (ns++[on])).drop k=ints ((ns++[on]).drop k) from by simp[ints]]at D
  have R:Hid (usedF ⟨ns,sec,cnt⟩ on ot wn=⟨(ns++[on]).drop k,ot,(if sec=ot then cnt else 0)+1⟩):=by
   show _=_;unfold usedF;have:ns.length+1-(max (wn:Int) 0).toNat=k:=by have:=hn.o;have:=aa.o;omega
   simp only[this]
  have S:Hid (wn=((ns++[on]).drop k).length):=by show _=_;rw[List.length_drop,List.length_append];simp;have:=hn.o;have:=aa.o;omega
  generalize (ns++[on]).drop k=y at D R S;rw[show((0:Nat):Int)=0 from rfl,show((k:Nat):Int)=(o:Int)-(wn:Int) from by omega]at D;clear hk aB tw au
  go_upto_region 5 with(go_at_call 161;go_loud (refine D.mono ?_);rintro e w3 ⟨rfl,aC,ad⟩;have an:=Blk_grown P.o ad (some_ne aI.o);obtain⟨p0,p1,p2,q0,q1,q2⟩:=z3_of an)
  have aL: ∀g,some d=some g→(Value.slice A 0 0).ownBlock=some g∨w.heap.size≤g:=fun g hg=>by
   have e:=Option.some.inj hg;rw[←e];exact HP.o
  have G3:=grown_past G2.o ad aL;have ae:=κ (ξ (blk_st an 0 (.slice (some ⟨d,0,none⟩) wn i)));have ao:Hid (Blk (w3.setCell ⟨b,0,none⟩ (.slice (some ⟨d,0,none⟩) wn i)) go 75 (vO oa os ox op oq on ot)):=far_st (Blk_grown ab.o ad (some_ne aH.o)) av.o _;have ap:Hid (Blk (w3.setCell ⟨b,0,none⟩ (.slice (some ⟨d,0,none⟩) wn i)) x 243 (vR none 0 0 0 0)):=far_st (Blk_grown ac.o ad (some_ne aJ.o)) p.o _;have aq:Hid (Ris (w3.setCell ⟨b,0,none⟩ (.slice (some ⟨d,0,none⟩) wn i)) (w3.setCell ⟨b,0,none⟩ (.slice (some ⟨d,0,none⟩) wn i)).heap.size (some ⟨d,0,none⟩) y):=Rd.keep' aC (Nat.lt_succ_self _) (fun a f=>(F.o a f).1) _;have G4:Hid (w.grownBy (w3.setCell ⟨b,0,none⟩ (.slice (some ⟨d,0,none⟩) wn i)) (Value.slice A 0 0).ownBlock):=grown_set G3 q.o 0 _;clear G H I J K L p0 p1 p2 q0 q1 q2 an aC ad D P ab ac V G2 e1 t2;generalize w3.setCell ⟨b,0,none⟩ (.slice (some ⟨d,0,none⟩) wn i)=w4 at ae ao ap aq G4 ⊢;by_cases hs:sec=ot
  ·have t1:(sec != ot)=false:=by simp[hs]
   have l:Hid (usedF ⟨ns,sec,cnt⟩ on ot wn=⟨y,sec,cnt+1⟩):=by show _=_;rw[R.o,if_pos hs,←hs]
   clear hs;have C:=κ (ξ (blk_st ae.o 2 (.int .i64 (cnt+1))));have t:Hid (Blk (w4.setCell ⟨b,2,none⟩ (.int .i64 (cnt+1))) x 243 (vR none 0 0 0 0)):=far_st ap.o p.o _;have E:Hid (Ris (w4.setCell ⟨b,2,none⟩ (.int .i64 (cnt+1))) (w4.setCell ⟨b,2,none⟩ (.int .i64 (cnt+1))).heap.size (some ⟨d,0,none⟩) y):=Rd.keep' aq.o (Nat.lt_succ_self _) (fun a f=>(F.o a f).1) _;have G9:Hid (w.grownBy (w4.setCell ⟨b,2,none⟩ (.int .i64 (cnt+1))) (Value.slice A 0 0).ownBlock):=grown_set G4.o q.o 2 _;obtain⟨G,H,I,J,K,L⟩:=z3_of ae.o;obtain⟨o0,o1,o2,o3,o4,o5,o6⟩:=q7_of ao.o
   go_upto_region 9 with fail
   clear G H I J K L o0 o1 o2 o3 o4 o5 o6;generalize (w4.setCell ⟨b,2,none⟩ (.int .i64 (cnt+1)))=w9 at C t E G9 ⊢;have F3:Blk (st3 w9 x (.slice (some ⟨d,0,none⟩) wn i) (.int .i64 sec) (.int .i64 (cnt+1))) x 243 #[.slice (some ⟨d,0,none⟩) wn i,(.int .i64 sec),(.int .i64 (cnt+1))]:=st3_blk t.o
   have m:MadeUs base (usedF ⟨ns,sec,cnt⟩ on ot wn) A w (.returned (.agg #[.slice (some ⟨d,0,none⟩) wn i,(.int .i64 sec),(.int .i64 (cnt+1))])) (st3 w9 x (.slice (some ⟨d,0,none⟩) wn i) (.int .i64 sec) (.int .i64 (cnt+1))):=by
    refine⟨(some ⟨d,0,none⟩),i,?_,?_,FR.o,ah.o,?_⟩
    ·rw[l.o,S.o]
    ·rw[l.o];unfold st3;exact Rd.keep' (Rd.keep' (Rd.keep' E.o (Nat.lt_succ_self _) (fun a f=>(F.o a f).2) _) (Nat.lt_succ_self _) (fun a f=>(F.o a f).2) _) (Nat.lt_succ_self _) (fun a f=>(F.o a f).2) _
    ·exact grown_set (grown_set (grown_set G9.o j.o 0 _) j.o 1 _) j.o 2 _
   have HF:=κ m;clear m;obtain⟨G,H,I⟩:=q3_of C.o;obtain⟨z0,z1,z2,J,K,L⟩:=z3_of t.o
   go_wp2_with fail
   obtain⟨d0,d1,d2⟩:=q3_of F3;clear F3;unfold st3 at d0 d1 d2 HF;exact bodyPost_ret (v:= .agg #[.slice (some ⟨d,0,none⟩) wn i,(.int .i64 sec),(.int .i64 (cnt+1))]) (by simp[results,Tryz.results137,go_sem,d0,d1,d2]) rfl HF.o
  ·have t1:(sec != ot)=true:=by simp[hs]
   have l:Hid (usedF ⟨ns,sec,cnt⟩ on ot wn=⟨y,ot,1⟩):=by show _=_;rw[R.o,if_neg hs];rfl
   clear hs;have af:=κ (ξ (blk_st ae.o 1 (.int .i64 ot)));have O:=κ (ξ (blk_st af.o 2 (.int .i64 0)));have T:Hid (Blk ((w4.setCell ⟨b,1,none⟩ (.int .i64 ot)).setCell ⟨b,2,none⟩ (.int .i64 0)) x 243 (vR none 0 0 0 0)):=far_st (far_st ap.o p.o _) p.o _;have U:Hid (Ris ((w4.setCell ⟨b,1,none⟩ (.int .i64 ot)).setCell ⟨b,2,none⟩ (.int .i64 0)) ((w4.setCell ⟨b,1,none⟩ (.int .i64 ot)).setCell ⟨b,2,none⟩ (.int .i64 0)).heap.size (some ⟨d,0,none⟩) y):=Rd.keep' (Rd.keep' aq.o (Nat.lt_succ_self _) (fun a f=>(F.o a f).1) _) (Nat.lt_succ_self _) (fun a f=>(F.o a f).1) _;have G7:Hid (w.grownBy ((w4.setCell ⟨b,1,none⟩ (.int .i64 ot)).setCell ⟨b,2,none⟩ (.int .i64 0)) (Value.slice A 0 0).ownBlock):=grown_set (grown_set G4.o q.o 1 _) q.o 2 _;obtain⟨G,H,I,J,K,L⟩:=z3_of ae.o;obtain⟨o0,o1,o2,o3,o4,o5,o6⟩:=q7_of ao.o
   go_upto_region 7 with fail
   clear G H I J K L o0 o1 o2 o3 o4 o5 o6 af;generalize ((w4.setCell ⟨b,1,none⟩ (.int .i64 ot)).setCell ⟨b,2,none⟩ (.int .i64 0))=w7 at O T U G7 ⊢;have C:=κ (ξ (blk_st O.o 2 (.int .i64 1)));have t:Hid (Blk (w7.setCell ⟨b,2,none⟩ (.int .i64 1)) x 243 (vR none 0 0 0 0)):=far_st T.o p.o _;have E:Hid (Ris (w7.setCell ⟨b,2,none⟩ (.int .i64 1)) (w7.setCell ⟨b,2,none⟩ (.int .i64 1)).heap.size (some ⟨d,0,none⟩) y):=Rd.keep' U.o (Nat.lt_succ_self _) (fun a f=>(F.o a f).1) _;have G9:Hid (w.grownBy (w7.setCell ⟨b,2,none⟩ (.int .i64 1)) (Value.slice A 0 0).ownBlock):=grown_set G7.o q.o 2 _;obtain⟨G,H,I,J,K,L⟩:=z3_of O.o
   go_upto_region 9 with fail
   clear G H I J K L O T U G7;generalize w7.setCell ⟨b,2,none⟩ (.int .i64 1)=w9 at C t E G9 ⊢;have F3:Blk (st3 w9 x (.slice (some ⟨d,0,none⟩) wn i) (.int .i64 ot) (.int .i64 1)) x 243 #[.slice (some ⟨d,0,none⟩) wn i,(.int .i64 ot),(.int .i64 1)]:=st3_blk t.o
   have m:MadeUs base (usedF ⟨ns,sec,cnt⟩ on ot wn) A w (.returned (.agg #[.slice (some ⟨d,0,none⟩) wn i,(.int .i64 ot),(.int .i64 1)])) (st3 w9 x (.slice (some ⟨d,0,none⟩) wn i) (.int .i64 ot) (.int .i64 1)):=by
    refine⟨(some ⟨d,0,none⟩),i,?_,?_,FR.o,ah.o,?_⟩
    ·rw[l.o,S.o]
    ·rw[l.o];unfold st3;exact Rd.keep' (Rd.keep' (Rd.keep' E.o (Nat.lt_succ_self _) (fun a f=>(F.o a f).2) _) (Nat.lt_succ_self _) (fun a f=>(F.o a f).2) _) (Nat.lt_succ_self _) (fun a f=>(F.o a f).2) _
    ·exact grown_set (grown_set (grown_set G9.o j.o 0 _) j.o 1 _) j.o 2 _
   have HF:=κ m;clear m;obtain⟨G,H,I⟩:=q3_of C.o;obtain⟨z0,z1,z2,J,K,L⟩:=z3_of t.o
   go_wp2_with fail
   obtain⟨d0,d1,d2⟩:=q3_of F3;clear F3;unfold st3 at d0 d1 d2 HF;exact bodyPost_ret (v:= .agg #[.slice (some ⟨d,0,none⟩) wn i,(.int .i64 ot),(.int .i64 1)]) (by simp[results,Tryz.results137,go_sem,d0,d1,d2]) rfl HF.o
 ·have e1:wrap64 ((o:Int)-(wn:Int))=(o:Int)-(wn:Int):=by unfold wrap64;omega
  have t2:decide (wn<o)=false:=by simp;omega
  have R:Hid (usedF ⟨ns,sec,cnt⟩ on ot wn=⟨ns++[on],ot,(if sec=ot then cnt else 0)+1⟩):=by
   show _=_;unfold usedF;have:ns.length+1-(max (wn:Int) 0).toNat=0:=by have:=hn.o;have:=aa.o;omega
   simp only[this,List.drop_zero]
  have S:Hid (o=(ns++[on]).length):=by show _=_;rw[List.length_append];simp;have:=hn.o;have:=aa.o;omega
  have ar:Hid (Ris w2 w2.heap.size (some ⟨d,0,none⟩) (ns++[on])):=by
   show Rd _ _ _ _;rw[ints_snoc];exact Rd.of_own V.o
  generalize ns++[on]=y at R S ar
  go_upto_region 5 with fail
  clear G H I J K L V e1 t2 hw;by_cases hs:sec=ot
  ·have t1:(sec != ot)=false:=by simp[hs]
   have l:Hid (usedF ⟨ns,sec,cnt⟩ on ot wn=⟨y,sec,cnt+1⟩):=by show _=_;rw[R.o,if_pos hs,←hs]
   clear hs;have C:=κ (ξ (blk_st P.o 2 (.int .i64 (cnt+1))));have t:Hid (Blk (w2.setCell ⟨b,2,none⟩ (.int .i64 (cnt+1))) x 243 (vR none 0 0 0 0)):=far_st ac.o p.o _;have E:Hid (Ris (w2.setCell ⟨b,2,none⟩ (.int .i64 (cnt+1))) (w2.setCell ⟨b,2,none⟩ (.int .i64 (cnt+1))).heap.size (some ⟨d,0,none⟩) y):=Rd.keep' ar.o (Nat.lt_succ_self _) (fun a f=>(F.o a f).1) _;have G9:Hid (w.grownBy (w2.setCell ⟨b,2,none⟩ (.int .i64 (cnt+1))) (Value.slice A 0 0).ownBlock):=grown_set G2.o q.o 2 _;obtain⟨G,H,I,J,K,L⟩:=z3_of P.o;obtain⟨o0,o1,o2,o3,o4,o5,o6⟩:=q7_of ab.o
   go_upto_region 9 with fail
   clear G H I J K L o0 o1 o2 o3 o4 o5 o6;generalize (w2.setCell ⟨b,2,none⟩ (.int .i64 (cnt+1)))=w9 at C t E G9 ⊢;have F3:Blk (st3 w9 x (.slice (some ⟨d,0,none⟩) o i) (.int .i64 sec) (.int .i64 (cnt+1))) x 243 #[.slice (some ⟨d,0,none⟩) o i,(.int .i64 sec),(.int .i64 (cnt+1))]:=st3_blk t.o
   have m:MadeUs base (usedF ⟨ns,sec,cnt⟩ on ot wn) A w (.returned (.agg #[.slice (some ⟨d,0,none⟩) o i,(.int .i64 sec),(.int .i64 (cnt+1))])) (st3 w9 x (.slice (some ⟨d,0,none⟩) o i) (.int .i64 sec) (.int .i64 (cnt+1))):=by
    refine⟨(some ⟨d,0,none⟩),i,?_,?_,FR.o,ah.o,?_⟩
    ·rw[l.o,S.o]
    ·rw[l.o];unfold st3;exact Rd.keep' (Rd.keep' (Rd.keep' E.o (Nat.lt_succ_self _) (fun a f=>(F.o a f).2) _) (Nat.lt_succ_self _) (fun a f=>(F.o a f).2) _) (Nat.lt_succ_self _) (fun a f=>(F.o a f).2) _
    ·exact grown_set (grown_set (grown_set G9.o j.o 0 _) j.o 1 _) j.o 2 _
   have HF:=κ m;clear m;obtain⟨G,H,I⟩:=q3_of C.o;obtain⟨z0,z1,z2,J,K,L⟩:=z3_of t.o
   go_wp2_with fail
   obtain⟨d0,d1,d2⟩:=q3_of F3;clear F3;unfold st3 at d0 d1 d2 HF;exact bodyPost_ret (v:= .agg #[.slice (some ⟨d,0,none⟩) o i,(.int .i64 sec),(.int .i64 (cnt+1))]) (by simp[results,Tryz.results137,go_sem,d0,d1,d2]) rfl HF.o
  ·have t1:(sec != ot)=true:=by simp[hs]
   have l:Hid (usedF ⟨ns,sec,cnt⟩ on ot wn=⟨y,ot,1⟩):=by show _=_;rw[R.o,if_neg hs];rfl
   clear hs;have af:=κ (ξ (blk_st P.o 1 (.int .i64 ot)));have O:=κ (ξ (blk_st af.o 2 (.int .i64 0)));have T:Hid (Blk ((w2.setCell ⟨b,1,none⟩ (.int .i64 ot)).setCell ⟨b,2,none⟩ (.int .i64 0)) x 243 (vR none 0 0 0 0)):=far_st (far_st ac.o p.o _) p.o _;have U:Hid (Ris ((w2.setCell ⟨b,1,none⟩ (.int .i64 ot)).setCell ⟨b,2,none⟩ (.int .i64 0)) ((w2.setCell ⟨b,1,none⟩ (.int .i64 ot)).setCell ⟨b,2,none⟩ (.int .i64 0)).heap.size (some ⟨d,0,none⟩) y):=Rd.keep' (Rd.keep' ar.o (Nat.lt_succ_self _) (fun a f=>(F.o a f).1) _) (Nat.lt_succ_self _) (fun a f=>(F.o a f).1) _;have G7:Hid (w.grownBy ((w2.setCell ⟨b,1,none⟩ (.int .i64 ot)).setCell ⟨b,2,none⟩ (.int .i64 0)) (Value.slice A 0 0).ownBlock):=grown_set (grown_set G2.o q.o 1 _) q.o 2 _;obtain⟨G,H,I,J,K,L⟩:=z3_of P.o;obtain⟨o0,o1,o2,o3,o4,o5,o6⟩:=q7_of ab.o
   go_upto_region 7 with fail
   clear G H I J K L o0 o1 o2 o3 o4 o5 o6 af;generalize ((w2.setCell ⟨b,1,none⟩ (.int .i64 ot)).setCell ⟨b,2,none⟩ (.int .i64 0))=w7 at O T U G7 ⊢;have C:=κ (ξ (blk_st O.o 2 (.int .i64 1)));have t:Hid (Blk (w7.setCell ⟨b,2,none⟩ (.int .i64 1)) x 243 (vR none 0 0 0 0)):=far_st T.o p.o _;have E:Hid (Ris (w7.setCell ⟨b,2,none⟩ (.int .i64 1)) (w7.setCell ⟨b,2,none⟩ (.int .i64 1)).heap.size (some ⟨d,0,none⟩) y):=Rd.keep' U.o (Nat.lt_succ_self _) (fun a f=>(F.o a f).1) _;have G9:Hid (w.grownBy (w7.setCell ⟨b,2,none⟩ (.int .i64 1)) (Value.slice A 0 0).ownBlock):=grown_set G7.o q.o 2 _;obtain⟨G,H,I,J,K,L⟩:=z3_of O.o
   go_upto_region 9 with fail
   clear G H I J K L O T U G7;generalize w7.setCell ⟨b,2,none⟩ (.int .i64 1)=w9 at C t E G9 ⊢;have F3:Blk (st3 w9 x (.slice (some ⟨d,0,none⟩) o i) (.int .i64 ot) (.int .i64 1)) x 243 #[.slice (some ⟨d,0,none⟩) o i,(.int .i64 ot),(.int .i64 1)]:=st3_blk t.o
   have m:MadeUs base (usedF ⟨ns,sec,cnt⟩ on ot wn) A w (.returned (.agg #[.slice (some ⟨d,0,none⟩) o i,(.int .i64 ot),(.int .i64 1)])) (st3 w9 x (.slice (some ⟨d,0,none⟩) o i) (.int .i64 ot) (.int .i64 1)):=by
    refine⟨(some ⟨d,0,none⟩),i,?_,?_,FR.o,ah.o,?_⟩
    ·rw[l.o,S.o]
    ·rw[l.o];unfold st3;exact Rd.keep' (Rd.keep' (Rd.keep' E.o (Nat.lt_succ_self _) (fun a f=>(F.o a f).2) _) (Nat.lt_succ_self _) (fun a f=>(F.o a f).2) _) (Nat.lt_succ_self _) (fun a f=>(F.o a f).2) _
    ·exact grown_set (grown_set (grown_set G9.o j.o 0 _) j.o 1 _) j.o 2 _
   have HF:=κ m;clear m;obtain⟨G,H,I⟩:=q3_of C.o;obtain⟨z0,z1,z2,J,K,L⟩:=z3_of t.o
   go_wp2_with fail
   obtain⟨d0,d1,d2⟩:=q3_of F3;clear F3;unfold st3 at d0 d1 d2 HF;exact bodyPost_ret (v:= .agg #[.slice (some ⟨d,0,none⟩) o i,(.int .i64 ot),(.int .i64 1)]) (by simp[results,Tryz.results137,go_sem,d0,d1,d2]) rfl HF.o
end Bku
end Go.Proofs.YtcccdikhfgpamaaGreat
