/- Texts side by side. -/
import Derived.Test.YtaeddnjjeholgaaGreatUgaf
set_option linter.unusedVariables false
set_option linter.unusedSimpArgs false
set_option maxRecDepth 100000
set_option maxHeartbeats 16000000
namespace Go.Proofs.YtaeddnjjeholgaaGreat
open Kap Go.ChangeShapes Go.WideShapes Go.ChangeAt Go.RowKit Mem Tre Ref3 Law3
namespace Lim
open Fix3 Crd CrdB CrdC Cpl Own Res
def MadeLim(l:List (Int×Int))(u:List Int)(b:Int)(w:World)(e:Ending)(w':World):Prop:=
 ∃A c A' c',e= .returned (.tuple #[.agg #[.slice A l.length c,.slice A' u.length c'],.int .i64 b])∧Nds w' w'.heap.size A l∧Ris w' w'.heap.size A' u∧Below w.heap.size w w'
theorem madeLim_mk{l l':List (Int×Int)}{u:List Int}{b b':Int}{A A':Option Addr}{c c':Nat}{w w':World}(hu:l=l')(hp:b=b')(h1:Nds w' w'.heap.size A l')(h2:Ris w' w'.heap.size A' u)(hb:Below w.heap.size w w'):
  MadeLim l u b w (.returned (.tuple #[.agg #[.slice A l'.length c,.slice A' u.length c'],.int .i64 b'])) w':=by
 subst hu;subst hp;exact⟨A,c,A',c',rfl,h1,h2,hb⟩
theorem limit_any(A A':Option Addr)(c c':Nat)(l:List (Int×Int))(u:List Int)(n x:Int)(w:World)(hl:Hid (Nds w w.heap.size A l))(hu:Hid (Ris w w.heap.size A' u))(hg:GoodSt l u)(hn:inI n)(hx0: -9223372036854775808≤x)(hx1:x≤9223372036854775807):
  Calls Tryz.prog 139 #[.agg #[.slice A l.length c,.slice A' u.length c'],.int .i64 n,.int .i64 x] w (MadeLim (limL l n x) u (limF l n x) w):=by
 have hr:=κ hg.right;have hw:=κ hg.wf;have hwu:=κ hg.wfi;have g1:=hg.few;have g2:(l.length:Int)≤32:=by omega
 have g3:(u.length:Int)≤32:=by rw[hg.len];omega
 have HG:=κ hg;obtain⟨P,hP⟩:=ν (pathF l 3 n);have HP:=κ hP;have p1:P.length≤3:=by rw[hP];exact path_le3 _ _ _
 clear hP hg
 go_enter Tryz.func139,Tryz.ntmps139
 go_wp2_with fail
 refine(start_own A A' c c' l u w hl hu g2 g3).mono ?_;rintro e w1 ⟨A1,c1,A2,c2,rfl,hpre⟩;have f0:=χ (hpre.k3.cell 0);have f1:=χ (hpre.k3.cell 1);have z0:=hpre.k3.thaw 0;have z1:=hpre.k3.thaw 1;have how:=κ hpre.store;clear hpre hl hu
 go_wp2_with fail
 generalize (w1.setCell (α w.heap.size 0) (.slice A1 l.length c1)).setCell (α w.heap.size 1) (.slice A2 u.length c2)=W2 at how ⊢;clear f0 f1 z0 z1;refine(pathOf_any A1 A2 c1 c2 l u n W2 (Rd.of_own how.out.o1) (Rd.of_own how.out.o2) hw hwu (by omega) (by omega) hn hr.out).mono ?_;rintro e W3 ⟨A3,c3,rfl,hr3,hf3,hb3⟩;have HF3:=κ hf3;have hob:=κ how.out.o2;have hsz2:w.heap.size+2≤W2.heap.size:=how.out.k6.lt;rw[←HP.out]at hr3 ⊢;have HR:=κ hr3;have how3:=κ (how.out.below hb3);clear how hr3 hb3 hf3;have f0:=χ (how3.out.k3.cell 0);have f1:=χ (how3.out.k3.cell 1);have r0:=χ (how3.out.k6.cell 0);have r1:=χ (how3.out.k6.cell 1);have y0:=how3.out.k6.thaw 0;have y1:=how3.out.k6.thaw 1;by_cases hp0:P.length=0
 ·have q0:((P.length:Int)==0)=true:=beq_iff_eq.2 (by omega);have hout:=(path_none n).1 (by rw[←HP.out];exact hp0);have hres:Hid (limF l n x=18):=by show _=_;rw[limF,hout];rfl
  have hresu:Hid (limL l n x=l):=by show _=_;rw[limL,hres.out];rfl
  obtain⟨t1,t2,t3,t4,t5⟩:=fin_st how3.out.o1 how3.out.o2 how3.out.k6 (by omega) (by omega) how3.out.bl (.slice A1 l.length c1) (.slice A2 u.length c2);have T1:=κ t1;have T2:=κ t2;clear t1 t2 hp0 hout
  go_wp2_with fail
  exact bodyPost_ret (v:= .tuple #[.agg #[.slice A1 l.length c1,.slice A2 u.length c2],ι 18]) (by simp[results,Tryz.results139,go_sem,t4,t5]) rfl (madeLim_mk hresu.out hres.out T1.out T2.out t3)
 have q0:((P.length:Int)==0)=false:=beq_eq_false_iff_ne.2 (by omega)
 have hin:Hid (inR l.length n=true):=by
  show _=_;cases hh:inR l.length n with
  |true=>rfl
  |false=>exact absurd (by rw[HP.out];exact(path_none n).2 hh) hp0
 obtain⟨hn0,hn1⟩:=inR_of hin.out;clear hp0;by_cases hx:x<0∨4611686018427387904<x
 ·have hres:Hid (limF l n x=1):=by show _=_;rw[limF,if_pos hin.out,if_pos hx]
  have hresu:Hid (limL l n x=l):=by show _=_;rw[limL,hres.out];rfl
  obtain⟨t1,t2,t3,t4,t5⟩:=fin_st how3.out.o1 how3.out.o2 how3.out.k6 (by omega) (by omega) how3.out.bl (.slice A1 l.length c1) (.slice A2 u.length c2);have T1:=κ t1;have T2:=κ t2;clear t1 t2;by_cases hx0:x<0
  ·clear hx
   go_wp2_with fail
   exact bodyPost_ret (v:= .tuple #[.agg #[.slice A1 l.length c1,.slice A2 u.length c2],ι 1]) (by simp[results,Tryz.results139,go_sem,t4,t5]) rfl (madeLim_mk hresu.out hres.out T1.out T2.out t3)
  ·have hx2:4611686018427387904<x:=by omega
   clear hx
   go_wp2_with fail
   exact bodyPost_ret (v:= .tuple #[.agg #[.slice A1 l.length c1,.slice A2 u.length c2],ι 1]) (by simp[results,Tryz.results139,go_sem,t4,t5]) rfl (madeLim_mk hresu.out hres.out T1.out T2.out t3)
 have hres:Hid (limF l n x=0):=by show _=_;rw[limF,if_pos hin.out,if_neg hx]
 have hresu:Hid (limL l n x=l.set n.toNat (nP l n.toNat,x)):=by show _=_;rw[limL,hres.out];rfl
 have hx0:0≤x:=by omega
 have hx2:x≤4611686018427387904:=by omega
 have hnl:n.toNat<l.length:=by omega
 clear hx;obtain⟨g1',rfl,hg1a,hg1b,_,hc1,hs1⟩:=own_at2 how3.out.o1 (by have:=HG.out.one;omega);obtain⟨d1,d2,d3⟩:=hc1 n.toNat hnl;have hsm:=hs1 n.toNat x hnl
 have o1':(W3.setCell (α g1' (n.toNat*2+1)) (ι x)).ownsRow (w.heap.size+2) 102 2 (.slice (some (α g1' 0)) (l.set n.toNat (nP l n.toNat,x)).length c1) (l.set n.toNat (nP l n.toNat,x)).length (nds (l.set n.toNat (nP l n.toNat,x))):=by
  rw[List.length_set];exact hsm
 have o2':=own_other how3.out.o2 how3.out.o1 (by decide) (n.toNat*2+1) (ι x);have k6':=blk_far how3.out.k6 (p:=(α g1' (n.toNat*2+1))) (by simp;omega) (ι x);have k3':=blk_far how3.out.k3 (p:=(α g1' (n.toNat*2+1))) (by simp;omega) (ι x);have bl':=how3.out.bl.setCell (p:=(α g1' (n.toNat*2+1))) (by simp;omega) (ι x);obtain⟨t1,t2,t3,t4,t5⟩:=fin_st o1' o2' k6' (by omega) (by omega) bl' (.slice (some ⟨g1',0,none⟩) l.length c1) (.slice A2 u.length c2);have v0:=χ (k3'.cell 0);have v1:=χ (k3'.cell 1);have s0:=χ (k6'.cell 0);have s1:=χ (k6'.cell 1);have T1:=κ t1;have T2:=κ t2;have hend:=κ (madeLim_mk (c:=c1) (c':=c2) hresu.out hres.out T1.out T2.out t3);rw[List.length_set]at hend;clear t1 t2 o1' o2' k6' k3' hsm hc1 hs1
 go_wp2_with fail
 exact bodyPost_ret (v:= .tuple #[.agg #[.slice (some (α g1' 0)) l.length c1,.slice A2 u.length c2],ι 0]) (by simp[results,Tryz.results139,go_sem,t4,t5]) rfl hend.out
end Lim
namespace Rr4
open Abv Fix3 Crd CrdB CrdC Cpl Own Res Rel Lim
variable {cs:Array Value} {news xs:List Value} {Bx b base c g j m n nm size:Nat} {A:Option Addr} {P:Program} {e te:TypeId} {v:Value} {W w:World}
theorem grown_refl(w:World)(row:Option Nat):w.grownBy w row:=⟨rfl,rfl,rfl,τ,fun _ _ _=>rfl⟩
theorem run_appG(hown:w.ownsRow base e size v n xs)(hr:Rd w Bx A news)(hnm:nm=n+m)(t ty:TypeId)
  (i:TypeInfo)(z:Value)(bytes:Nat)(ht:P.underlying t=some (.slice e))(hi:P.info? e=some i)(hz:i.zero=some z)
  (hsize:i.size=size)(hby:i.bytes=bytes)(hzs:z.cells.size=size)(hsz:0<size)
  (hl:news.length=m*size)(h1: ∀u∈news,u.oneCell'=true)
  (h63:n+m≤maxLen)(hbytes:(n+m)*bytes≤140737488355328)(hbase:base≤w.heap.size):
  ∃A' c' w',(Builtin.append_ #[t,t] ty #[v,.slice A m c]).run P w= .ok (.slice A' nm c') w'∧w'.ownsRow base e size (.slice A' nm c') nm (xs++news)∧w.grownBy w' v.ownBlock:=by
 subst hnm;cases A with
 |none=>
  have hn:news=[]:=by
   rcases hr with h|⟨b,o,h,_⟩
   ·exact h
   ·cases h
  subst hn
  have hm:m=0:=by
   rcases Nat.eq_zero_or_pos m with h|h
   ·exact h
   ·have:=Nat.mul_pos h hsz;simp at hl;omega
  subst hm;obtain⟨A',c',rfl,_⟩:=own_form hown;exact⟨A',c',w,run_appNil w base t ty e i size ht hi _ n xs hown c,by simpa using hown,grown_refl _ _⟩
 |some ad=>
  have hnews: ∀j u,news[j]? =some u→w.cell? (ad.add j)=some u:=by
   intro j u hj;rcases hr with h|⟨b,o,h,_,hc⟩
   ·subst h;simp at hj
   ·injection h with h
    subst h;rw[show(⟨b,o,none⟩:Addr).add j=⟨b,o+j,none⟩ by unfold Addr.add;split<;>simp_all];exact hc j u hj
  obtain⟨v',w',hrun,hown',hg,_⟩:=run_append_own (P:=P) w base t ty e i z size bytes ht hi hz hsize hby hzs hsz v n xs hown ad m c news hl hnews h1 h63 hbytes hbase;obtain⟨A',c',rfl,_⟩:=own_form hown';exact⟨A',c',w',hrun,hown',hg⟩
theorem step_appG{ops:Array Oper}{o:Oper}{a:Act}{K:Act→World→Prop}{Q:Exit→Act→World→Prop}{E:Prop}(hown:Hid (w.ownsRow base e size v n xs))(hr:Hid (Rd w Bx A news))(hnm:nm=n+m)(hgd:o.guard=none)(s x:Operand)(t:TypeId)
  (ho:o.op= .call {callee:= .builtin .append,args:= #[s,x],argTypes:= #[t,t]})
  (i:TypeInfo)(z:Value)(bytes:Nat)(ht:P.underlying t=some (.slice e))(hi:P.info? e=some i)(hz:i.zero=some z)
  (hsize:i.size=size)(hby:i.bytes=bytes)(hzs:z.cells.size=size)(hsz:0<size)
  (hs:a.eval s=v)(hx:a.eval x= .slice A m c)(hl:news.length=m*size)(h1: ∀u∈news,u.oneCell'=true)
  (h63:n+m≤maxLen)(hbytes:(n+m)*bytes≤140737488355328)(hbase:base≤w.heap.size)
  (h: ∀A' c' w',Hid (w'.ownsRow base e size (.slice A' nm c') nm (xs++news))→w.grownBy w' v.ownBlock→K (a.put o.dst (.slice A' nm c')) w'):
  if Region.wanted o (yielded ops a.tmps)=true then Oper.wp P o a w K Q else E:=by
 have hw:Region.wanted o (yielded ops a.tmps)=true:=by simp[Region.wanted,hgd]
 rw[if_pos hw];obtain⟨A',c',w',hrun,h2,h3⟩:=run_appG (P:=P) hown.out hr.out hnm t o.type i z bytes ht hi hz hsize hby hzs hsz hl h1 h63 hbytes hbase (c:=c);unfold Oper.wp execOp;simp only[ho,resolve,invoke,builtin,Sem.run_bind,Sem.run_pure,Result.andThen_ok,List.map_toArray,List.map_cons,List.map_nil,hs,hx,hrun];exact h A' c' w' h2 h3
theorem Blk_grown{w':World}{row:Option Nat}(h:Blk w g te cs)(hg:w.grownBy w' row)(hne:some g≠row):Blk w' g te cs:=(hg.block g h.lt hne).trans h
end Rr4
namespace Apt
open Rr4
variable {cs:Array Value} {g:Nat} {te:TypeId}
theorem wpList_appRG{P:Program}{w:World}{ops:Array Oper}{rest:List Oper}{o:Oper}{a:Act}{Q:Exit→Act→World→Prop}{Bx:Nat}{base:Nat}{e:TypeId}{size n m nm c:Nat}{v:Value}{xs news:List Value}{A:Option Addr}(hown:Hid (w.ownsRow base e size v n xs))(hr:Hid (Rd w Bx A news))(hnm:nm=n+m)(hgd:o.guard=none)(s x:Operand)(t:TypeId)
  (ho:o.op= .call {callee:= .builtin .append,args:= #[s,x],argTypes:= #[t,t]})
  (i:TypeInfo)(z:Value)(bytes:Nat)(ht:P.underlying t=some (.slice e))(hi:P.info? e=some i)(hz:i.zero=some z)
  (hsize:i.size=size)(hby:i.bytes=bytes)(hzs:z.cells.size=size)(hsz:0<size)
  (hs:a.eval s=v)(hx:a.eval x= .slice A m c)(hl:news.length=m*size)(h1: ∀u∈news,u.oneCell'=true)
  (h63:n+m≤maxLen)(hbytes:(n+m)*bytes≤140737488355328)(hbase:base≤w.heap.size)
  (h: ∀A' c' w',Hid (w'.ownsRow base e size (.slice A' nm c') nm (xs++news))→w.grownBy w' v.ownBlock→wpList P ops Q rest (a.put o.dst (.slice A' nm c')) w'):
  wpList P ops Q (o :: rest) a w:=by
 refine wpList_plain hgd fun _ hK=>?_
 obtain⟨A',c',w',hrun,h2,h3⟩:=run_appG (P:=P) hown.out hr.out hnm t o.type i z bytes ht hi hz hsize hby hzs hsz hl h1 h63 hbytes hbase (c:=c);unfold Oper.wp execOp;simp only[ho,resolve,invoke,builtin,Sem.run_bind,Sem.run_pure,Result.andThen_ok,List.map_toArray,List.map_cons,List.map_nil,hs,hx,hrun];exact hK _ _ (h A' c' w' h2 h3)
section
variable {w w':World} {b1 b2:Nat} {e1 e2:TypeId} {s1 s2 n1 n2:Nat} {v1 v2:Value} {x1 x2:List Value}
theorem own_ne(h:w.ownsRow b1 e1 s1 v1 n1 x1)(k:w.ownsRow b2 e2 s2 v2 n2 x2)(hne:e1≠e2):v1.ownBlock=none∨v1.ownBlock≠v2.ownBlock:=by
 rcases h.2 with⟨rfl,_⟩|⟨g,cap,cur,rfl,_,hg,_⟩
 ·exact .inl rfl
 ·rcases k.2 with⟨rfl,_⟩|⟨g',cap',cur',rfl,_,hg',_⟩
  ·exact .inr (by simp[Value.ownBlock])
  ·refine .inr fun e=>?_
   simp only[Value.ownBlock,Option.some.injEq]at e;subst e;rw[hg]at hg';injection hg' with hg'
   injection hg' with _ q
   exact hne q
theorem own_grown(h:w.ownsRow b1 e1 s1 v1 n1 x1)(k:w.ownsRow b2 e2 s2 v2 n2 x2)(hne:e1≠e2)(hg:w.grownBy w' v2.ownBlock):w'.ownsRow b1 e1 s1 v1 n1 x1:=
 World.ownsRow.kept h hg (own_ne h k hne)
theorem blk_own_ne(h:Blk w g te cs)(k:w.ownsRow b2 e2 s2 v2 n2 x2)(hne:te≠e2):some g≠v2.ownBlock:=by
 rcases k.2 with⟨rfl,_⟩|⟨g',cap',cur',rfl,_,hg',_⟩
 ·simp[Value.ownBlock]
 ·intro e;simp only[Value.ownBlock,Option.some.injEq]at e;subst e;unfold Blk at h;rw[h]at hg';injection hg' with hg'
  injection hg' with _ q
  exact hne q
theorem blk_own_grown(h:Blk w g te cs)(k:w.ownsRow b2 e2 s2 v2 n2 x2)(hne:te≠e2)(hg:w.grownBy w' v2.ownBlock):Blk w' g te cs:=
 Blk_grown h hg (blk_own_ne h k hne)
theorem grown_below{B:Nat}{w0:World}(hb:Below B w0 w)(k:w.ownsRow b2 e2 s2 v2 n2 x2)(hg:w.grownBy w' v2.ownBlock)(hB:B≤b2)(hB':B≤w.heap.size):Below B w0 w':=
 hb.grown hg hB' (fun q hq=>by have:=World.ownsRow.lt k q hq;omega)
end
end Apt
end Go.Proofs.YtaeddnjjeholgaaGreat
