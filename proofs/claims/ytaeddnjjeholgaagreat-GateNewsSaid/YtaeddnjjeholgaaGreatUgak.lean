/- Texts side by side. -/
import Derived.Deep.MidRow
import Derived.Test.YtaeddnjjeholgaaGreatUgae
import Derived.Test.YtaeddnjjeholgaaGreatUgan
set_option linter.unusedVariables false
set_option linter.unusedSimpArgs false
set_option maxRecDepth 100000
set_option maxHeartbeats 16000000
namespace Go.Proofs.YtaeddnjjeholgaaGreat
open Kap Go.ChangeShapes Go.WideShapes Go.ChangeAt Go.RowKit Mem Tre Ref3 Law3 Crd Bkp Dlk
namespace Bcl
theorem ints_len1(l:List Int):(ints l).length=l.length*1:=by rw[ints_len];omega
def MadeOw(te:TypeId)(size:Nat)(n:Nat)(xs:List Value)(w:World)(e:Ending)(w':World):Prop:=
 ∃A c,e= .returned (.slice A n c)∧w'.ownsRow w.heap.size te size (.slice A n c) n xs∧Below w.heap.size w w'
theorem infoR:(Tryz.prog.info? 165).map (fun i=>(i.zero,i.size,i.bytes))=some (some (.agg #[.slice none 0 0,.int .i64 0,.int .i64 0]),3,40):=by kernel_rfl
theorem cloneR(A:Option Addr)(n c:Nat)(l:List Rc)(w:World)(hn:Hid (n=l.length))(hl:Hid (Rd w w.heap.size A (rcs l)))(hmax:(n:Int)≤1000000):
  Calls Tryz.prog 87 #[.slice A n c] w (MadeOw 165 3 n (rcs l) w):=by
 obtain⟨i0,hi,hz0,hz1,hz2⟩:=info_parts infoR;have hq:=fun(W:World) (n c:Nat)=>Lib.run_eql_slice_nil (P:=Tryz.prog) W 60 165 A n c 0 0 Tryz.underlying60
 have hln:Hid ((rcs l).length=n*3):=by show _=_;rw[hn.out];exact rcs_len l
 cases A with
 |none=>
  have hl0:rcs l=[]:=by
   rcases hl.out with h|⟨b,o,h,_⟩
   ·exact h
   ·cases h
  have hn0:n=0:=by have:=hln.out;rw[hl0]at this;simp at this;omega
  have HL:=κ hl0;clear hn hln hl0;subst hn0
  go_enter Tryz.func87,Tryz.ntmps87
  go_wp2_with fail
  go_ret;rw[HL.out];exact⟨none,0,rfl,World.ownsRow_nil _ _ _ _,Below.refl _ _⟩
 |some ad=>
  have hl1:Hid (Rd (w.alloc (.cells #[] 165)) w.heap.size (some ad) (rcs l)):=Rd.below hl.out (ψ.alloc τ _);have how:Hid ((w.alloc (.cells #[] 165)).ownsRow w.heap.size 165 3 (.slice (some (α w.heap.size 0)) 0 0) 0 []):=own_empty (Blk.fresh w _ _) τ;have hb0:=β w (.cells #[] 165)
  go_enter Tryz.func87,Tryz.ntmps87
  go_wp2_with (at_builtin;go_loud (refine wpList_appR (nm:=n) how hb0 hl1 (by simp) rfl _ _ _ rfl i0 (.agg #[.slice none 0 0,.int .i64 0,.int .i64 0]) 40 Tryz.underlying60 hi hz0 hz1 hz2 rfl (by decide) rfl rfl hln.out (rcs_one l) (by unfold maxLen;omega) (by omega) τ (by simp) (by simp) ?_);intro A1 c1 w1 hown1 hbel1 hsz1)
  go_ret;exact⟨A1,c1,rfl,hown1,hbel1⟩
theorem infoE:(Tryz.prog.info? 162).map (fun i=>(i.zero,i.size,i.bytes))=some (some (.agg #[.int .i64 0,.int .i64 0,.int .i64 0,.bool false,.int .i64 0,.int .i64 0,.int .i64 0,.int .i64 0,.int .i64 0,.int .i64 0,.int .i64 0]),11,88):=by kernel_rfl
theorem cloneE(A:Option Addr)(n c:Nat)(l:List En)(w:World)(hn:Hid (n=l.length))(hl:Hid (Rd w w.heap.size A (ens l)))(hmax:(n:Int)≤1000000):
  Calls Tryz.prog 86 #[.slice A n c] w (MadeOw 162 11 n (ens l) w):=by
 obtain⟨i0,hi,hz0,hz1,hz2⟩:=info_parts infoE;have hq:=fun(W:World) (n c:Nat)=>Lib.run_eql_slice_nil (P:=Tryz.prog) W 61 162 A n c 0 0 Tryz.underlying61
 have hln:Hid ((ens l).length=n*11):=by show _=_;rw[hn.out];exact ens_len l
 cases A with
 |none=>
  have hl0:ens l=[]:=by
   rcases hl.out with h|⟨b,o,h,_⟩
   ·exact h
   ·cases h
  have hn0:n=0:=by have:=hln.out;rw[hl0]at this;simp at this;omega
  have HL:=κ hl0;clear hn hln hl0;subst hn0
  go_enter Tryz.func86,Tryz.ntmps86
  go_wp2_with fail
  go_ret;rw[HL.out];exact⟨none,0,rfl,World.ownsRow_nil _ _ _ _,Below.refl _ _⟩
 |some ad=>
  have hl1:Hid (Rd (w.alloc (.cells #[] 162)) w.heap.size (some ad) (ens l)):=Rd.below hl.out (ψ.alloc τ _);have how:Hid ((w.alloc (.cells #[] 162)).ownsRow w.heap.size 162 11 (.slice (some (α w.heap.size 0)) 0 0) 0 []):=own_empty (Blk.fresh w _ _) τ;have hb0:=β w (.cells #[] 162)
  go_enter Tryz.func86,Tryz.ntmps86
  go_wp2_with (at_builtin;go_loud (refine wpList_appR (nm:=n) how hb0 hl1 (by simp) rfl _ _ _ rfl i0 (.agg #[.int .i64 0,.int .i64 0,.int .i64 0,.bool false,.int .i64 0,.int .i64 0,.int .i64 0,.int .i64 0,.int .i64 0,.int .i64 0,.int .i64 0]) 88 Tryz.underlying61 hi hz0 hz1 hz2 rfl (by decide) rfl rfl hln.out (ens_one l) (by unfold maxLen;omega) (by omega) τ (by simp) (by simp) ?_);intro A1 c1 w1 hown1 hbel1 hsz1)
  go_ret;exact⟨A1,c1,rfl,hown1,hbel1⟩
theorem infoI:(Tryz.prog.info? 2).map (fun i=>(i.zero,i.size,i.bytes))=some (some (.int .i64 0),1,8):=by kernel_rfl
theorem cloneI(A:Option Addr)(n c:Nat)(l:List Int)(w:World)(hn:Hid (n=l.length))(hl:Hid (Rd w w.heap.size A (ints l)))(hmax:(n:Int)≤1000000):
  Calls Tryz.prog 88 #[.slice A n c] w (MadeOw 2 1 n (ints l) w):=by
 obtain⟨i0,hi,hz0,hz1,hz2⟩:=info_parts infoI;have hq:=fun(W:World) (n c:Nat)=>Lib.run_eql_slice_nil (P:=Tryz.prog) W 144 2 A n c 0 0 Tryz.underlying144
 have hln:Hid ((ints l).length=n*1):=by show _=_;rw[hn.out];exact ints_len1 l
 cases A with
 |none=>
  have hl0:ints l=[]:=by
   rcases hl.out with h|⟨b,o,h,_⟩
   ·exact h
   ·cases h
  have hn0:n=0:=by have:=hln.out;rw[hl0]at this;simp at this;omega
  have HL:=κ hl0;clear hn hln hl0;subst hn0
  go_enter Tryz.func88,Tryz.ntmps88
  go_wp2_with fail
  go_ret;rw[HL.out];exact⟨none,0,rfl,World.ownsRow_nil _ _ _ _,Below.refl _ _⟩
 |some ad=>
  have hl1:Hid (Rd (w.alloc (.cells #[] 2)) w.heap.size (some ad) (ints l)):=Rd.below hl.out (ψ.alloc τ _);have how:Hid ((w.alloc (.cells #[] 2)).ownsRow w.heap.size 2 1 (.slice (some (α w.heap.size 0)) 0 0) 0 []):=own_empty (Blk.fresh w _ _) τ;have hb0:=β w (.cells #[] 2)
  go_enter Tryz.func88,Tryz.ntmps88
  go_wp2_with (at_builtin;go_loud (refine wpList_appR (nm:=n) how hb0 hl1 (by simp) rfl _ _ _ rfl i0 (.int .i64 0) 8 Tryz.underlying144 hi hz0 hz1 hz2 rfl (by decide) rfl rfl hln.out (ints_one l) (by unfold maxLen;omega) (by omega) τ (by simp) (by simp) ?_);intro A1 c1 w1 hown1 hbel1 hsz1)
  go_ret;exact⟨A1,c1,rfl,hown1,hbel1⟩
theorem deleteI(g n cap i j:Nat)(xs:List Value)(base:Nat)(w:World)(how:Hid (w.ownsRow base 2 1 (.slice (some ⟨g,0,none⟩) n cap) n xs))(h1c:Hid (∀u∈xs,u.oneCell'=true))(hij:i<j)(hj:j≤n)(hcap:(cap:Int)≤9223372036854775807):
  Calls Tryz.prog 187 #[.slice (some ⟨g,0,none⟩) n cap,.int .i64 i,.int .i64 j] w (fun e w'=>e= .returned (.slice (some ⟨g,0,none⟩) (i+(n-j)) cap)∧Rd w' w'.heap.size (some ⟨g,0,none⟩) (xs.take (i*1)++xs.drop (j*1))∧w.grownBy w' (some g)):=by
 obtain⟨i0,hi,hz0,hz1,hz2⟩:=info_parts infoI;obtain⟨hb,hlt,hnc,hcm,hroom,hcell⟩:=own_room how.out;have hxl:=κ how.out.1;obtain⟨news,hnews⟩:=ν (xs.drop (j*1));have hlen:Hid (news.length=(n-j)*1):=by show _=_;rw[hnews,List.length_drop,hxl.out];omega
 obtain⟨A,hA,hsrc⟩: ∃A:Addr,(if cap=j then some (⟨g,0,none⟩:Addr) else some ⟨g,j,none⟩)=some A∧Hid (∀t u,news[t]? =some u→w.drew.cell? (A.add t)=some u):=by
  by_cases h:cap=j
  ·refine⟨(α g 0),by simp[h],fun t u hu=>?_⟩;have h0:news.length=0:=by rw[hlen.out];omega
   rw[List.length_eq_zero_iff.1 h0]at hu;simp at hu
  ·refine⟨(α g j),by simp[h],fun t u hu=>?_⟩;rw[hnews,List.getElem?_drop]at hu;rw[Addr.add_lit];exact hcell _ u (by first|exact hu|simpa using hu)
 have s2:Hid (∀u∈news,u.oneCell'=true):=by
  intro u hu;rw[hnews]at hu;exact h1c.out u (List.mem_of_mem_drop hu)
 have s3:Hid (∀t,t<news.length→(w.drew.cell? (α g (0+i*1+t))).isSome=true∧w.drew.frozen? (α g (0+i*1+t))=false):=by
  intro t ht;rw[hlen.out]at ht;rw[Nat.zero_add];exact hroom (i*1+t) (by omega)
 obtain⟨W1,hW1⟩:=ν (w.drew.setCells g (0+i*1) news);have gr1:w.grownBy W1 (some g):=by rw[hW1];exact grown_setCells (grown_drew (grown_refl w _)) _ _
 have hroom1: ∀t,t<cap*1→(W1.cell? (α g t)).isSome=true∧W1.frozen? (α g t)=false:=by
  intro t ht;rw[hW1];exact⟨World.isSome_setCells g _ _ _ _ (hroom t ht).1,by rw[World.frozen?_setCells];exact(hroom t ht).2⟩
 obtain⟨zs,hzs⟩:=ν ((Builtin.zeroCells (Value.cells (.int .i64 0)) (n-(i+(n-j)))).toList)
 have hcl: ∀ty,(Builtin.clear_ #[144] ty #[.slice (some (α g (i+(n-j)))) (n-(i+(n-j))) (cap-(i+(n-j)))]).run Tryz.prog W1= .ok (.tuple #[]) (W1.setCells g (i+(n-j)) zs):=by
  intro ty;rw[hzs];exact run_clear_any W1 _ _ ty _ Tryz.underlying144 Tryz.zeroValue2 1 rfl (by decide) (by simp[Value.cells,Value.oneCell']) g _ _ _ (by omega) (fun t ht=>(hroom1 ((i+(n-j))+t) (by omega)).1) (fun t ht=>(hroom1 ((i+(n-j))+t) (by omega)).2)
 have hfin:Hid (Rd (W1.setCells g (i+(n-j)) zs) (W1.setCells g (i+(n-j)) zs).heap.size (some (α g 0)) (xs.take (i*1)++xs.drop (j*1))∧w.grownBy (W1.setCells g (i+(n-j)) zs) (some g)):=by
  refine⟨?_,grown_setCells gr1 _ _⟩;rw[hW1,hnews,Nat.zero_add];have h9:=del_reads (i:=i) (j:=j) how.out (by omega) hj zs;simpa only[Nat.mul_one] using h9
 have hW:=κ hW1;have hic:i≤cap:=by omega
 have hjc:j≤cap:=by omega
 have hne:i≠j:=by omega
 clear hW1 hroom hroom1 gr1 hcell hnews hzs how h1c
 go_enter Tryz.func187,Tryz.ntmps187
 go_wp2_with fail
 go_region_law (refine step_append_room rfl (.tmp 22) (.tmp 25) 144 rfl 2 i0 1 Tryz.underlying144 hi hz1 g 0 i cap (by simp[Act.eval,Act.put]) A (n-j) (cap-j) news (by simp[Act.eval,Act.put]) hlen.out hsrc.out s2.out (by omega) s3.out ?_;rw[←hW.out])
 go_wp2_with fail
 go_ret;exact⟨rfl,hfin.out⟩
end Bcl
namespace Bko
open Abv CrdB CrdC Rr4 Bks Bcl Stk Apt
def OwR(base:Nat)(w:World)(x:Rc):Prop:=w.ownsRow base 2 1 (.slice x.A x.r.ns.length x.c) x.r.ns.length (ints x.r.ns)
def Apa(l:List Rc)(i:Nat):Prop:= ∀j k,j<k→k<i→ ∀a b,(gC l j).A=some a→(gC l k).A=some b→a.block≠b.block
structure Bo(base:Nat)(w:World)(A C:Option Addr)(c d:Nat)(rl:List Rc)(b:Bk):Prop where
 r:w.ownsRow base 165 3 (.slice A b.rows.length c) b.rows.length (rcs rl)
 o:w.ownsRow base 162 11 (.slice C b.op.length d) b.op.length (ens b.op)
 e:rl.map Rc.r=b.rows
 own: ∀k,k<rl.length→OwR base w (gC rl k)
 ap:Apa rl rl.length
variable {b:Bk} {rl:List Rc} {xs:List Value} {base c d g n size:Nat} {A C:Option Addr} {e te:TypeId} {v:Value} {w:World}
theorem Bo.below{w':World}(h:Bo base w A C c d rl b)(hb:Below w.heap.size w w'):Bo base w' A C c d rl b:=
 ⟨own_below h.r hb,own_below h.o hb,h.e,fun k hk=>own_below (h.own k hk) hb,h.ap⟩
theorem Bo.bm(h:Bo base w A C c d rl b):Bm w A C rl b:=
 ⟨Rd.of_own h.r,h.e,fun i hi=>Rd.of_own (h.own i hi),Rd.of_own h.o⟩
structure Oi(w0:World)(base:Nat)(w:World)(gB gR:Nat)(sh ca:Int)(Ar Ao:Option Addr)(nr cr no co:Nat)(rl rl':List Rc)(rows:List Ro)(op:List En)(i:Nat):Prop where
 kB:Blk w gB 63 #[.int .i64 sh,.int .i64 ca,.slice Ar nr cr,.slice Ao no co]
 kR:Blk w gR 63 #[.int .i64 0,.int .i64 0,.slice none 0 0,.slice none 0 0]
 r:w.ownsRow base 165 3 (.slice Ar nr cr) nr (rcs rl')
 o:w.ownsRow base 162 11 (.slice Ao no co) no (ens op)
 len:rl'.length=nr
 e:rl'.map Rc.r=rows
 old: ∀k,i≤k→gC rl' k=gC rl k
 own: ∀k,k<i→OwR base w (gC rl' k)
 ap:Apa rl' i
 b:Below w0.heap.size w0 w
theorem gC_set(l:List Rc)(i k:Nat)(x:Rc)(hi:i<l.length):gC (l.set i x) k=if k=i then x else gC l k:=by
 unfold gC;by_cases h:k=i
 ·subst h;simp[hi]
 ·rw[if_neg h];simp[List.getD,List.getElem?_set,show ¬i=k from fun e=>h e.symm]
theorem map_set_same(l:List Rc)(i:Nat)(x:Rc)(h:x.r=(gC l i).r)(hi:i<l.length):(l.set i x).map Rc.r=l.map Rc.r:=by
 rw[List.map_set,h];have e:(gC l i).r=(l.map Rc.r)[i]'(by simpa using hi):=by simp[gC,hi]
 rw[e];exact List.set_getElem_self _
theorem Oi.step{w0:World}{w1:World}{gB gR:Nat}{sh ca:Int}{Ar Ao:Option Addr}{nr cr no co:Nat}{rl':List Rc}{rows:List Ro}{op:List En}{i gr:Nat}(h:Oi w0 base w gB gR sh ca Ar Ao nr cr no co rl rl' rows op i)(hi:i<nr)(hA:Ar=some ⟨gr,0,none⟩)(hb1:Below w.heap.size w w1)(hw0:w0.heap.size≤base)(hbs:base≤w.heap.size)
  {A5:Option Addr}{c5:Nat}(how:w1.ownsRow w.heap.size 2 1 (.slice A5 (gC rl i).r.ns.length c5) (gC rl i).r.ns.length (ints (gC rl i).r.ns)):
  Oi w0 base (w1.setCell ⟨gr,i*3,none⟩ (.slice A5 (gC rl i).r.ns.length c5)) gB gR sh ca Ar Ao nr cr no co rl (rl'.set i ⟨A5,c5,⟨(gC rl i).r.ns,(gC rl' i).r.sec,(gC rl' i).r.cnt⟩⟩) rows op (i+1):=by
 have hr1:=own_below h.r hb1;have ho1:=own_below h.o hb1;subst hA;obtain⟨hs,hg⟩:=World.ownsRow.stored hr1 (i*3) (.slice A5 (gC rl i).r.ns.length c5);have hil:i<rl'.length:=by rw[h.len];exact hi
 have hg':w1.grownBy (w1.setCell (α gr (i*3)) (.slice A5 (gC rl i).r.ns.length c5)) (Value.slice (some (α gr 0)) nr cr).ownBlock:=hg;have hgr:=World.ownsRow.lt hr1 gr rfl;refine⟨?_,?_,?_,?_,?_,?_,?_,?_,?_,?_⟩
 ·exact blk_own_grown (Blk.below' h.kB hb1) hr1 (by decide) hg'
 ·exact blk_own_grown (Blk.below' h.kR hb1) hr1 (by decide) hg'
 ·rw[rcs_setA _ _ hil];exact hs
 ·exact own_grown ho1 hr1 (by decide) hg'
 ·rw[List.length_set];exact h.len
 ·rw[map_set_same _ _ _ _ hil]
  ·exact h.e
  ·rw[h.old i τ]
 ·intro k hk;rw[gC_set _ _ _ _ hil,if_neg (by omega)];exact h.old k (by omega)
 ·intro k hk;rw[gC_set _ _ _ _ hil];by_cases hki:k=i
  ·rw[if_pos hki];exact own_grown (own_mono (base':=base) how hbs) hr1 (by decide) hg'
  ·rw[if_neg hki];exact own_grown (own_below (h.own k (by omega)) hb1) hr1 (by decide) hg'
 ·intro j k hjk hk a b ha hb;rw[gC_set _ _ _ _ hil,if_neg (by omega)]at ha;rw[gC_set _ _ _ _ hil]at hb;by_cases hki:k=i
  ·rw[if_pos hki]at hb;simp only[]at hb;have h1:=World.ownsRow.lt (h.own j (by omega)) a.block (by rw[ha];rfl);have h2:=World.ownsRow.lt how b.block (by rw[hb];rfl);omega
  ·rw[if_neg hki]at hb;exact h.ap j k hjk (by omega) a b ha hb
 ·have hgb:=ξ (own_fresh hr1 _ rfl);exact(below_step h.b hb1).setCell (p:=(α gr (i*3))) (by show _≤gr;omega) _
def MadeBo(b:Bk)(w:World)(e:Ending)(w':World):Prop:=
 ∃A C c d rl,e= .returned (bkA A C c d b)∧Bo w.heap.size w' A C c d rl b∧Below w.heap.size w w'
theorem own_st{cs:Array Value}(h:w.ownsRow base e size v n xs)(hk:Blk w g te cs)(hne:e≠te)(i:Nat)(x:Value):
  (w.setCell ⟨g,i,none⟩ x).ownsRow base e size v n xs:=by
 refine⟨h.1,?_⟩;rcases h.2 with h2|⟨k,cap,cur,hv,hg,hh,r⟩
 ·exact .inl h2
 ·have hkg:k≠g:=by
   rintro rfl;unfold Blk at hk;rw[hh]at hk;injection hk with hk
   injection hk with _ q
   exact hne q
  refine .inr ⟨k,cap,cur,hv,hg,?_,r⟩;rw[Below.heap_setCell _ _ _ _ (by exact hkg)];exact hh
theorem own_st4{u0 u1 u2 u3 v0 v1 v2 v3:Value}(h:w.ownsRow base e size v n xs)(hk:Blk w g te #[u0,u1,u2,u3])(hne:e≠te):
  (st4 w g v0 v1 v2 v3).ownsRow base e size v n xs:=by
 have k0:=ξ (blk_st hk 0 v0);have k1:=ξ (blk_st k0 1 v1);have k2:=ξ (blk_st k1 2 v2);exact own_st (own_st (own_st (own_st h hk hne 0 v0) k0 hne 1 v1) k1 hne 2 v2) k2 hne 3 v3
theorem own_at{m:Nat}(h:w.ownsRow base e size (.slice A n c) m xs)(hn:0<n): ∃g,A=some ⟨g,0,none⟩:=by
 rcases h.2 with⟨h',_⟩|⟨g,cap,cur,h',_⟩
 ·simp at h';omega
 ·simp only[Value.slice.injEq]at h';exact⟨g,h'.1⟩
theorem own_any(sh ca:Int)(A C:Option Addr)(nr no c d:Nat)(rl:List Rc)(bk:Bk)(w:World)(hsh:Hid (sh=bk.sh∧ca=bk.ca))(hnr:Hid (nr=bk.rows.length))(hno:Hid (no=bk.op.length))(hm:Hid (Bm w A C rl bk))(hf:Hid (FewB bk)):
  Calls Tryz.prog 127 #[.agg #[.int .i64 sh,.int .i64 ca,.slice A nr c,.slice C no d]] w (MadeBo bk w):=by
 have hl1:nr≤1000:=by rw[hnr.out];exact hf.out.rl
 have hl2:no≤1000:=by rw[hno.out];exact hf.out.ol
 have b0:=κ (γ w (.cells (vB sh ca A nr c C no d) 63) (.cells (vB 0 0 none 0 0 none 0 0) 63));have K0:=κ ((Blk.fresh w 63 (vB sh ca A nr c C no d)).alloc (.cells (vB 0 0 none 0 0 none 0 0) 63));have R0:=κ (δ (w.alloc (.cells (vB sh ca A nr c C no d) 63)) 63 (vB 0 0 none 0 0 none 0 0) (w.heap.size+1));have HRL:Hid (rl.length=nr):=by show _=_;rw[hnr.out];exact hm.out.len
 have HNL:Hid (∀i,i<nr→(gC rl i).r.ns.length≤1000):=fun i hi=>by
  rw[gC_row hm.out.e (by rw[HRL.out];exact hi)];exact hf.out.nl i (by rw[←hnr.out];exact hi)
 go_enter Tryz.func127,Tryz.ntmps127
 go_upto_region 1 with fail
 generalize ((w.alloc (.cells (vB sh ca A nr c C no d) 63)).alloc (.cells (vB 0 0 none 0 0 none 0 0) 63))=w0 at b0 K0 R0 ⊢;obtain⟨gB,hgB⟩:=ν w.heap.size;obtain⟨gR,hgR⟩:=ν (w.heap.size+1);have hBR:gB≠gR:=by omega
 have hgB1:Hid (w.heap.size≤gB):=by show _≤_;omega
 have hgR1:Hid (w.heap.size≤gR):=by show _≤_;omega
 have K1:=κ (ζ hgB K0.out);have R1:=κ (ζ hgR R0.out);simp only[←hgR];simp only[←hgB];clear hgB hgR K0 R0;have HB0:=κ b0.out.size;obtain⟨k0,k1,k2,k3⟩:=q4_of K1.out
 go_wp2_with fail
 refine(cloneE C no d bk.op _ hno (Rd.below' hm.out.o b0.out b0.out.size) (by omega)).mono ?_;rintro e w1 ⟨Ao,co,rfl,how1,hb1⟩;have HO1:=κ (own_mono how1 HB0.out);have HB1:=κ (below_step b0.out hb1);have K2:=κ (Blk.below' K1.out hb1);have R2:=κ (Blk.below' R1.out hb1);clear k0 k1 k2 k3 how1 hb1 K1 R1 b0 HB0;obtain⟨k0,k1,k2,k3,f0,f1,f2,f3⟩:=z4_of K2.out;have K3:=κ (ξ (blk_st K2.out 3 (.slice Ao no co)));have R3:Hid (Blk (w1.setCell (α gB 3) (.slice Ao no co)) gR 63 (vB 0 0 none 0 0 none 0 0)):=far_st R2.out (fun e=>hBR e.symm) _;have HO3:Hid ((w1.setCell (α gB 3) (.slice Ao no co)).ownsRow w.heap.size 162 11 (.slice Ao no co) no (ens bk.op)):=own_st HO1.out K2.out (by decide) 3 _;have HB3:Hid (Below w.heap.size w (w1.setCell (α gB 3) (.slice Ao no co))):=HB1.out.setCell (p:=(α gB 3)) hgB1.out _
 go_upto_region 2 with fail
 clear k0 k1 k2 k3 f0 f1 f2 f3 HO1 HB1 K2 R2;generalize w1.setCell (α gB 3) (.slice Ao no co)=w2 at K3 R3 HO3 HB3 ⊢;obtain⟨k0,k1,k2,k3,f0,f1,f2,f3⟩:=z4_of K3.out;have HB0:=κ HB3.out.size
 go_wp2_with fail
 refine(cloneR A nr c rl _ (by show _=_;rw[HRL.out]) (Rd.below' hm.out.r HB3.out HB3.out.size) (by omega)).mono ?_;rintro e w3 ⟨Ar,cr,rfl,how1,hb1⟩;have HR1:=κ (own_mono how1 HB0.out);have HO1:=own_below HO3.out hb1;have HB1:=κ (below_step HB3.out hb1);have K2:=κ (Blk.below' K3.out hb1);have R2:=κ (Blk.below' R3.out hb1);clear k0 k1 k2 k3 f0 f1 f2 f3 how1 hb1 K3 R3 HB3 HO3 HB0;obtain⟨k0,k1,k2,k3,f0,f1,f2,f3⟩:=z4_of K2.out
 have OI:Hid (Oi w w.heap.size (w3.setCell (α gB 2) (.slice Ar nr cr)) gB gR sh ca Ar Ao nr cr no co rl rl bk.rows bk.op 0):=
  ⟨blk_st K2.out 2 _,far_st R2.out (fun e=>hBR e.symm) _,own_st HR1.out K2.out (by decide) 2 _,own_st HO1.out K2.out (by decide) 2 _,HRL.out,hm.out.e,fun _ _=>rfl,fun k hk=>by omega,fun j k _ hk=>by omega,HB1.out.setCell (p:=⟨gB,2,none⟩) hgB1.out _⟩
 go_upto_region 3 with fail
 clear k0 k1 k2 k3 f0 f1 f2 f3 HR1 HO1 HB1 K2 R2;generalize w3.setCell (α gB 2) (.slice Ar nr cr)=w4 at OI ⊢;obtain⟨k0,k1,k2,k3⟩:=q4_of OI.out.kB
 go_wp2_with fail
 clear k0 k1 k2 k3
 go_loopg [16] nr (fun g s16 w'=> ∃(i:Nat) (rl':List Rc),i+g=nr∧s16= ι i∧Hid (Oi w w.heap.size w' gB gR sh ca Ar Ao nr cr no co rl rl' bk.rows bk.op i))
 case atStart=>exact⟨0,rl,by omega,rfl,OI⟩
 case round=>
  clear OI;obtain⟨i,rl',hi,rfl,OI⟩:=hrel;by_cases hlt:i<nr
  ·obtain⟨g,rfl⟩: ∃g,gk=g+1:=⟨gk-1,by omega⟩;have t0:decide ((i:Int)<(nr:Int))=true:=by simp;omega
   obtain⟨gr,hgr⟩:=own_at OI.out.r (by omega);subst hgr;have hil:i<rl'.length:=by rw[OI.out.len];exact hlt
   obtain⟨hbr,hbl,hnc,hcm,hroom,hcell⟩:=own_room OI.out.r;have c0:=hcell (i*3) _ (by have:=rcs_get rl' i 0 hil (by decide);exact this);have c1:=hcell (i*3+1) _ (by have:=rcs_get rl' i 1 hil (by decide);exact this);have c2:=hcell (i*3+2) _ (by have:=rcs_get rl' i 2 hil (by decide);exact this);rw[OI.out.old i τ]at c0 c1 c2;have HL:=κ (HNL.out i hlt);have HN:Hid (∀w',Below w.heap.size w w'→Ris w' w'.heap.size (gC rl i).A (gC rl i).r.ns):=fun w' hb=>Rd.below' (hm.out.n i (by rw[HRL.out];exact hlt)) hb hb.size
   obtain⟨R,hR⟩:=ν (gC rl i);rw[←hR]at c0 c1 c2 HL HN;have HR:=κ hR;clear hR hroom hcell;obtain⟨An,cn,ns,sec,cnt⟩:=R;simp only[]at HL HN;obtain⟨nn,hnn⟩:=ν ns.length;have HNN:=κ hnn;have c0':wr.cell? (α gr (i*3))=some (.slice An nn cn):=by rw[hnn];exact c0
   have c1':=χ c1;have c2':=χ c2;clear c0 c1 c2 hnn;have bA:=κ (β wr (.cells (vR An nn cn sec cnt) 165));have KA:=κ (Blk.fresh wr 165 (vR An nn cn sec cnt));have KB:=κ (Blk.below' OI.out.kB bA.out)
   go_upto_region 6 with fail
   clear c0' c1' c2';generalize wr.alloc (.cells (vR An nn cn sec cnt) 165)=w5 at bA KA KB ⊢;have hgrB:gr≠gB:=fun e=>blk_own_ne OI.out.kB OI.out.r (by decide) (by rw[e];rfl)
   have hgr4:gr≠wr.heap.size:=by omega
   have HG:=κ OI.out.b.size;generalize hg4:wr.heap.size=g4 at KA hgr4 ⊢;have Hg4:=κ hg4;clear hg4;have bD:=(below_step OI.out.b bA.out).drew;have bE:=κ bA.out.drew;obtain⟨k0,k1,k2,k3⟩:=q4_of KB.out;obtain⟨m0,m1,m2⟩:=q3_of KA.out
   go_region_held3 (fun w'=>w'.cell? ⟨gB,2,none⟩=some (.slice (some ⟨gr,0,none⟩) nr cr)∧w'.cell? ⟨g4,0,none⟩=some (.slice An nn cn))
    (first|go_keep|(exact⟨q1,p1⟩)|(exact⟨q2 _,p2 _⟩))
    (first
     |(go_at_call 88;refine(cloneI An nn cn ns _ HNN (HN.out _ (by assumption)) (by have:=HL.out;have:=HNN.out;omega)).mono ?_;rintro e w6 ⟨A5,c5,rfl,how5,hb5⟩;have bF:=κ (below_step bE.out hb5);have hr6:=own_room (own_below OI.out.r bF.out);have c6:=hr6.2.2.2.2.2 (i*3) _ (by have:=rcs_get rl' i 0 hil (by decide);exact this);have fz6:=(hr6.2.2.2.2.1 (i*3) (by omega)).2;clear hr6;have q1:w6.cell? ⟨gB,2,none⟩=some (.slice (some ⟨gr,0,none⟩) nr cr):=cell_later hb5 (by assumption);have p1:w6.cell? ⟨g4,0,none⟩=some (.slice An nn cn):=cell_later hb5 (by assumption);have q2: ∀x,(w6.setCell ⟨gr,i*3,none⟩ x).cell? ⟨gB,2,none⟩=some (.slice (some ⟨gr,0,none⟩) nr cr):=fun x=>(World.cell?_setCell_other _ _ _ _ (by intro e;injection e with e;exact hgrB e)).trans q1;have p2: ∀x,(w6.setCell ⟨gr,i*3,none⟩ x).cell? ⟨g4,0,none⟩=some (.slice An nn cn):=fun x=>(World.cell?_setCell_other _ _ _ _ (by intro e;injection e with e;exact hgr4 e)).trans p1))
   have OI2:Hid (Oi w w.heap.size (w6.setCell (α gr (i*3)) (.slice A5 nn c5)) gB gR sh ca (some (α gr 0)) Ao nr cr no co rl (rl'.set i ⟨A5,c5,⟨(gC rl i).r.ns,(gC rl' i).r.sec,(gC rl' i).r.cnt⟩⟩) bk.rows bk.op (i+1)):=by
    have hns:(gC rl i).r.ns=ns:=by rw[←HR.out]
    have:=Oi.step OI.out hlt rfl bF.out τ OI.out.b.size (A5:=A5) (c5:=c5) (by rw[hns,←HNN.out];exact own_mono how5 bE.out.size);rw[hns,←HNN.out]at this;rw[hns];exact this
   go_wp2_with fail
   go_roundg g
   case measure=>omega
   case rel=>exact⟨i+1,_,by omega,by rw[Int.natCast_add];rfl,OI2⟩
  ·have t0:decide ((i:Int)<(nr:Int))=false:=by simp;omega
   have hi2:i=nr:=by omega
   obtain⟨k0,k1,k2,k3⟩:=q4_of OI.out.kB;obtain⟨z0,z1,z2,z3,f0,f1,f2,f3⟩:=z4_of OI.out.kR;have F3:Blk (st4 wr gR (ι sh) (ι ca) (.slice Ar nr cr) (.slice Ao no co)) gR 63 (vB sh ca Ar nr cr Ao no co):=st4_blk OI.out.kR
   have hfin:MadeBo bk w (.returned (.agg (vB sh ca Ar nr cr Ao no co))) (st4 wr gR (ι sh) (ι ca) (.slice Ar nr cr) (.slice Ao no co)):=by
    refine⟨Ar,Ao,cr,co,rl',?_,⟨?_,?_,OI.out.e,?_,?_⟩,st4_below OI.out.b hgR1.out⟩
    ·unfold bkA;rw[←hnr.out,←hno.out,←hsh.out.1,←hsh.out.2]
    ·rw[←hnr.out];exact own_st4 OI.out.r OI.out.kR (by decide)
    ·rw[←hno.out];exact own_st4 OI.out.o OI.out.kR (by decide)
    ·intro k hk;exact own_st4 (OI.out.own k (by rw[OI.out.len]at hk;omega)) OI.out.kR (by decide)
    ·rw[OI.out.len,←hi2];exact OI.out.ap
   have HF:=κ hfin;clear hfin OI hi2
   go_wp2_with fail
   obtain⟨d0,d1,d2,d3⟩:=q4_of F3;clear F3;unfold st4 at d0 d1 d2 d3 HF;exact bodyPost_ret (v:= .agg #[ι sh,ι ca,.slice Ar nr cr,.slice Ao no co]) (by simp[results,Tryz.results127,go_sem,d0,d1,d2,d3]) rfl HF.out
end Bko
end Go.Proofs.YtaeddnjjeholgaaGreat
