/- Texts side by side. -/
import Derived.Test.YtaeddnjjeholgaaGreatUgad
set_option linter.unusedVariables false
set_option linter.unusedSimpArgs false
set_option maxRecDepth 100000
set_option maxHeartbeats 16000000
namespace Go.Proofs.YtaeddnjjeholgaaGreat
open Kap Go.RowKit Mem Tre Ref3 Law3 Crd CrdB
namespace CrdC
open Abv Go.ChangeShapes Go.WideShapes Go.ChangeAt
def MadeSt(l:List (Int×Int))(u:List Int)(w:World)(e:Ending)(w':World):Prop:=
 ∃A c A' c',e= .returned (.agg #[.slice A l.length c,.slice A' u.length c'])∧Nds w' w'.heap.size A l∧Ris w' w'.heap.size A' u∧Below w.heap.size w w'
variable {l:List (Int×Int)} {u:List Int} {w:World}
theorem madeSt_mk{A A':Option Addr}{n n' c c':Nat}{w':World}(hn:n=l.length)(hn':n'=u.length)(h1:Nds w' w'.heap.size A l)(h2:Ris w' w'.heap.size A' u)(hb:Below w.heap.size w w'):
  MadeSt l u w (.returned (.agg #[.slice A n c,.slice A' n' c'])) w':=by
 subst hn;subst hn';exact⟨A,c,A',c',rfl,h1,h2,hb⟩
def zeros(n:Nat):List Int:=List.replicate n 0
theorem zeros_len(n:Nat):(zeros n).length=n:=by simp[zeros]
theorem made_zeros(n:Nat):(madeCells (Value.int .i64 0).cells n).toList=ints (zeros n):=by
 refine List.ext_getElem? fun i=>?_
 by_cases h:i<n
 ·have e:(madeCells (Value.int .i64 0).cells n)[i]? =some (Value.int .i64 0):=by
   unfold madeCells;simp[h,Value.cells];exact Nat.mod_one i ▸ rfl
  simp[ints,zeros,h,e]
 ·simp[ints,zeros,madeCells,h]
theorem blk_far{g:Nat}{te:TypeId}{cs:Array Value}(h:Blk w g te cs){p:Addr}(hp:g≠p.block)(u:Value):Blk (w.setCell p u) g te cs:=(Below.heap_setCell w p u g hp).trans h
theorem begin_any(A:Option Addr)(c:Nat)(l:List (Int×Int))(w:World)(hl:Hid (Nds w w.heap.size A l))(hmax:(l.length:Int)≤1000000):
  Calls Tryz.prog 140 #[.slice A l.length c] w (MadeSt l (zeros l.length) w):=by
 obtain⟨i0,hi,hz0,hz1,hz2⟩:=info_parts i64_info;have hmk:=fun(W:World)=>run_make (P:=Tryz.prog) W 144 2 i0 (ι 0) Tryz.underlying144 hi hz0 .i64 .i64 (l.length:Int) (l.length:Int) (by omega) (by omega) (by rw[hz2];omega) (by omega)
 simp only[Int.toNat_natCast,hz1,Nat.mul_one]at hmk;have H1:Hid (∀W,Below w.heap.size w W→Nds W W.heap.size A l):=fun W hb=>Rd.below' hl.out hb hb.size
 have b0:=(β w (.cells (vS none 0 0 none 0 0) 194)).drew;have K0:Hid (Blk (w.alloc (.cells (vS none 0 0 none 0 0) 194)).drew w.heap.size 194 (vS none 0 0 none 0 0)):=Blk.fresh w _ _;have b0':=(γ w (.cells (vS none 0 0 none 0 0) 194) (.cells (madeCells #[ι 0] l.length) 2)).drew;have K0':Hid (Blk ((w.alloc (.cells (vS none 0 0 none 0 0) 194)).alloc (.cells (madeCells #[ι 0] l.length) 2)).drew w.heap.size 194 (vS none 0 0 none 0 0)):=(Blk.fresh w _ _).alloc _
 have Z0':Hid (Blk ((w.alloc (.cells (vS none 0 0 none 0 0) 194)).alloc (.cells (madeCells #[ι 0] l.length) 2)).drew (w.heap.size+1) 2 (madeCells #[ι 0] l.length)):=by
  have:=Blk.fresh (w.alloc (.cells (vS none 0 0 none 0 0) 194)) 2 (madeCells #[ι 0] l.length);rw[World.size_alloc]at this;exact this
 go_enter Tryz.func140,Tryz.ntmps140
 go_wp2_with fail
 go_region_held3 (fun w'=>True) (trivial)
  (first
   |(go_at_call 67;refine(cloneN_any _ _ l _ (H1.out _ (by assumption)) hmax).mono ?_;rintro e w1 ⟨A1,c1,rfl,ho1,hb1⟩;have b1:=below_step (by assumption) hb1;have k1:Hid (Blk w1 w.heap.size 194 #[.slice none 0 0,.slice none 0 0]):=Blk.below' (Hid.out (by assumption)) hb1;have r1:=χ (k1.out.cell 0);have s1:=χ (k1.out.cell 1);have y1:=k1.out.thaw 0;have z1:=k1.out.thaw 1;have n1:=k1.out.lt))
 ·have o1:((w1.setCell (α w.heap.size 0) (.slice A1 l.length c1)).setCell (α w.heap.size 1) (.slice (some (α w1.heap.size 0)) l.length l.length)).ownsRow (w.heap.size+1) 102 2 (.slice A1 l.length c1) l.length (nds l):=
   ownsRow_setCell_below (ownsRow_setCell_below (own_mono (base':=w.heap.size+1) ho1 (by simp[World.drew])) (by simp) _) (by simp) _
  have kf:=Blk.alloc (blk_set (blk_set k1.out 0 (.slice A1 l.length c1)) 1 (.slice (some (α w1.heap.size 0)) l.length l.length)) (.cells (madeCells #[ι 0] l.length) 2);have g0:=kf.cell 0;have g1:=kf.cell 1;simp at g0 g1;have zf:=Blk.fresh ((w1.setCell (α w.heap.size 0) (.slice A1 l.length c1)).setCell (α w.heap.size 1) (.slice (some (α w1.heap.size 0)) l.length l.length)) 2 (madeCells #[ι 0] l.length);have hsz:((w1.setCell (α w.heap.size 0) (.slice A1 l.length c1)).setCell (α w.heap.size 1) (.slice (some (α w1.heap.size 0)) l.length l.length)).heap.size=w1.heap.size:=by simp[World.setCell]
  rw[hsz]at zf;have bF:=((b1.setCell (p:=(α w.heap.size 0)) (by simp) (.slice A1 l.length c1)).setCell (p:=(α w.heap.size 1)) (by simp) (.slice (some (α w1.heap.size 0)) l.length l.length)).alloc (by rw[hsz];omega) (.cells (madeCells #[ι 0] l.length) 2);have O1:=κ (Rd.of_own (World.ownsRow.alloc o1 (.cells (madeCells #[ι 0] l.length) 2)));have ZF:=κ zf;clear o1 zf ho1 hsz hmk
  go_wp2_with fail
  exact bodyPost_ret (v:= .agg #[.slice A1 l.length c1,.slice (some (α w1.heap.size 0)) l.length l.length]) (by simp[results,Tryz.results140,go_sem,g0,g1]) rfl (madeSt_mk rfl (zeros_len _).symm O1.out (ZF.out.rd' (made_zeros _)) bF)
 ·have o1:((w1.setCell (α w.heap.size 0) (.slice A1 l.length c1)).setCell (α w.heap.size 1) (.slice (some (α (w.heap.size+1) 0)) l.length l.length)).ownsRow (w.heap.size+1) 102 2 (.slice A1 l.length c1) l.length (nds l):=
   ownsRow_setCell_below (ownsRow_setCell_below (own_mono (base':=w.heap.size+1) ho1 (by simp[World.drew])) (by simp) _) (by simp) _
  have kf:=blk_set (blk_set k1.out 0 (.slice A1 l.length c1)) 1 (.slice (some (α (w.heap.size+1) 0)) l.length l.length);have g0:=kf.cell 0;have g1:=kf.cell 1;simp at g0 g1;have zf:=blk_far (blk_far (Blk.below' Z0'.out hb1) (p:=(α w.heap.size 0)) (by simp) (.slice A1 l.length c1)) (p:=(α w.heap.size 1)) (by simp) (.slice (some (α (w.heap.size+1) 0)) l.length l.length);have bF:=(b1.setCell (p:=(α w.heap.size 0)) (by simp) (.slice A1 l.length c1)).setCell (p:=(α w.heap.size 1)) (by simp) (.slice (some (α (w.heap.size+1) 0)) l.length l.length);have O1:=κ (Rd.of_own o1);have ZF:=κ zf;clear o1 zf ho1 hmk
  go_wp2_with fail
  exact bodyPost_ret (v:= .agg #[.slice A1 l.length c1,.slice (some (α (w.heap.size+1) 0)) l.length l.length]) (by simp[results,Tryz.results140,go_sem,g0,g1]) rfl (madeSt_mk rfl (zeros_len _).symm O1.out (ZF.out.rd' (made_zeros _)) bF)
def maxC(x:Int):Bool:=decide (0≤x)&&decide (x≤4611686018427387904)
def rightF(l:List (Int×Int))(u:List Int):Bool:=decide ((chk l).1=0)&&decide (u.length=l.length)&&u.all maxC
def UOk(u:List Int):Prop:= ∀i,i<u.length→0≤gI u i∧gI u i≤4611686018427387904
theorem all_of(h:UOk u):u.all maxC=true:=by
 simp only[List.all_eq_true];intro x hx;obtain⟨i,hi,rfl⟩:=List.getElem_of_mem hx;have:=h i hi;simp[gI,hi]at this;simp[maxC,this]
theorem all_not{i:Nat}(hi:i<u.length)(h:gI u i<0∨4611686018427387904<gI u i):u.all maxC=false:=by
 rw[List.all_eq_false];refine⟨u[i],List.getElem_mem hi,?_⟩;simp[gI,hi]at h;simp[maxC];omega
theorem rightF_c(h: ¬(chk l).1=0):rightF l u=false:=by simp[rightF,h]
theorem rightF_l(h: ¬u.length=l.length):rightF l u=false:=by simp[rightF,h]
theorem rightF_a(h:u.all maxC=false):rightF l u=false:=by unfold rightF;rw[h,Bool.and_false]
theorem rightF_t(h:(chk l).1=0)(h':u.length=l.length)(h'':UOk u):rightF l u=true:=by
 simp only[rightF,all_of h'',h,h'];rfl
theorem right_any(A A':Option Addr)(c c':Nat)(l:List (Int×Int))(u:List Int)(w:World)(hl:Hid (Nds w w.heap.size A l))(hu:Hid (Ris w w.heap.size A' u))(hw:Hid (WfN l))(hwu:Hid (WfI u))(hmax:(l.length:Int)≤1000000)(hmay:(u.length:Int)≤1000000):
  Calls Tryz.prog 182 #[.agg #[.slice A l.length c,.slice A' u.length c']] w (MadeB (rightF l u) w):=by
 have b0:=β w (.cells (vS A l.length c A' u.length c') 194);have l0:=θ hl.out b0;have u0:=η hu.out b0;have k0:=κ (Blk.fresh w 194 (vS A l.length c A' u.length c'))
 go_enter Tryz.func182,Tryz.ntmps182
 go_wp2_with fail
 refine(check_any A c l _ l0.out hw (by omega)).mono ?_;rintro e w1 ⟨rfl,hb1⟩;have b1:=below_step b0 hb1;have k1:=κ (Blk.below' k0.out hb1);have u1:=η u0.out hb1;have f0:=χ (k1.out.cell 0);have f1:=χ (k1.out.cell 1);clear b0 l0 u0 k0 hb1;by_cases hc:(chk l).1=0
 ·have c1:((chk l).1 != 0)=false:=by simp[hc]
  have c2:((chk l).1==0)=true:=by simp[hc]
  by_cases hn:u.length=l.length
  ·have n1:((u.length:Int) != (l.length:Int))=false:=by simp;omega
   have n2:((u.length:Int)==(l.length:Int))=true:=by simp;omega
   have HC:=κ hc;have HN:=κ hn;clear hc hn
   go_wp2_with fail
   go_loopg [27] u.length (fun g s27 w'=> ∃k:Nat,k+g=u.length∧s27= ι k∧Hid (∀i,i<k→0≤gI u i∧gI u i≤4611686018427387904)∧w1=w')
   case atStart=>exact⟨0,by omega,rfl,fun i hi=>absurd hi (Nat.not_lt_zero i),rfl⟩
   case round=>
    obtain⟨k,hk,rfl,hall,rfl⟩:=hrel;by_cases hlt:(k:Int)<(u.length:Int)
    ·obtain⟨g,rfl⟩: ∃g,gk=g+1:=⟨gk-1,by omega⟩;obtain⟨b,o,rfl,hb,hcc⟩:=Ris.at (i:=k) u1.out (by omega);have d0:=hcc k (by omega);obtain⟨d1,d2⟩:=hwu.out k (by omega);clear hcc;by_cases h0:0≤gI u k∧gI u k≤4611686018427387904
     ·have hall':Hid (∀i,i<k+1→0≤gI u i∧gI u i≤4611686018427387904):=fun i hi=>by
       by_cases e:i=k
       ·subst e;exact h0
       ·exact hall.out i (by omega)
      obtain⟨h1,h2⟩:=h0
      go_wp2_with fail
      go_roundg g
      case measure=>omega
      case rel=>exact⟨k+1,by omega,by go_num,hall',rfl⟩
     ·have hf:=κ (rightF_a (l:=l) (u:=u) (all_not (u:=u) (i:=k) (by omega) (by omega)));by_cases h1:gI u k<0
      ·clear h0
       go_wp2_with fail
       go_ret;exact madeB_mk hf.out b1
      ·have h2:4611686018427387904<gI u k:=by omega
       clear h0
       go_wp2_with fail
       go_ret;exact madeB_mk hf.out b1
    ·have hf:=κ (rightF_t (l:=l) (u:=u) HC.out HN.out (fun i hi=>hall.out i (by omega)))
     go_wp2_with fail
     go_ret;exact madeB_mk hf.out b1
  ·have n1:((u.length:Int) != (l.length:Int))=true:=by simp;omega
   have n2:((u.length:Int)==(l.length:Int))=false:=by simp;omega
   have hf:=κ (rightF_l (l:=l) (u:=u) hn);clear hn hc
   go_wp2_with fail
   go_ret;exact madeB_mk hf.out b1
 ·have c1:((chk l).1 != 0)=true:=by simp[hc]
  have c2:((chk l).1==0)=false:=by simp[hc]
  have hf:=κ (rightF_c (u:=u) hc);clear hc
  go_wp2_with fail
  go_ret;exact madeB_mk hf.out b1
theorem pathOf_any(A A':Option Addr)(c c':Nat)(l:List (Int×Int))(u:List Int)(n:Int)(w:World)(hl:Hid (Nds w w.heap.size A l))(hu:Hid (Ris w w.heap.size A' u))(hw:Hid (WfN l))(hwu:Hid (WfI u))(hmax:(l.length:Int)≤1000000)(hmay:(u.length:Int)≤1000000)(hn:inI n)(hr:rightF l u=true):
  Calls Tryz.prog 163 #[.agg #[.slice A l.length c,.slice A' u.length c'],.int .i64 n] w (MadeIF (pathF l 3 n) w):=by
 have b0:=β w (.cells (vS A l.length c A' u.length c') 194);have l0:=θ hl.out b0;have u0:=η hu.out b0;have k0:=κ (Blk.fresh w 194 (vS A l.length c A' u.length c'))
 go_enter Tryz.func163,Tryz.ntmps163
 go_wp2_with fail
 refine(right_any A A' c c' l u _ l0 u0 hw hwu hmax hmay).mono ?_;rintro e w1 ⟨rfl,hb1⟩;have b1:=below_step b0 hb1;have k1:=κ (Blk.below' k0.out hb1);have l1:=θ l0.out hb1;have f0:=χ (k1.out.cell 0);clear b0 l0 u0 k0 hb1
 go_wp2_with fail
 refine(path_fresh A c l n _ l1.out hw (by omega) hn).mono ?_;rintro e w2 ⟨A2,c2,rfl,hr2,hf2,hb2⟩;have hff:Hid (∀a,A2=some a→w.heap.size≤a.block):=fun a ha=>by have:=hf2 a ha;have:=b1.size;omega
 have HR:=κ hr2;have b2:=below_step b1 hb2;clear hr2 hb2 hf2
 go_wp2_with fail
 go_ret;exact madeIF_mk rfl HR.out hff.out b2
end CrdC
namespace Cpl
open Fix3 CrdC
def addF(u:List Int)(p:List Int)(x:Int):List Int:=(List.range u.length).map fun(j:Nat)=>if (j:Int)∈p then gI u j+x else gI u j
variable {c m x:Int} {l:List (Int×Int)} {p u:List Int} {j k:Nat}
theorem addF_len(u p:List Int)(x:Int):(addF u p x).length=u.length:=by simp[addF]
theorem gI_addF(h:j<u.length):gI (addF u p x) j=if (j:Int)∈p then gI u j+x else gI u j:=by
 simp[addF,gI,h]
theorem ext_gI{v:List Int}(hl:u.length=v.length)(h: ∀j,j<u.length→gI u j=gI v j):u=v:=by
 refine List.ext_getElem hl fun i h1 h2=>?_
 have:=h i h1;simpa[gI,h1,h2] using this
theorem addF_nil(u:List Int)(x:Int):addF u [] x=u:=ext_gI (addF_len _ _ _) fun j hj=>by
 rw[addF_len]at hj;rw[gI_addF hj];simp
theorem gI_set(h:j<u.length):gI (u.set k x) j=if k=j then x else gI u j:=by
 unfold gI;by_cases e:k=j
 ·subst e;simp[h]
 ·simp[List.getElem?_set,e]
def Apart(n:Nat)(p:List Int):Prop:=(∀i,i<p.length→0≤gI p i∧gI p i<n)∧ ∀i j,i<j→j<p.length→gI p i≠gI p j
theorem mem_take:x∈p.take k↔ ∃i,i<k∧i<p.length∧gI p i=x:=by
 rw[List.mem_iff_getElem?];constructor
 ·rintro⟨i,hi⟩;have h1:=(List.getElem?_eq_some_iff.1 hi).1;have h2:i<k∧i<p.length:=by simp at h1;omega
  refine⟨i,h2.1,h2.2,?_⟩;rw[List.getElem?_take,if_pos h2.1]at hi;simp[gI,hi]
 ·rintro⟨i,h1,h2,h3⟩;refine⟨i,?_⟩;rw[List.getElem?_take,if_pos h1];simpa[gI,h2] using h3
theorem not_mem{n:Nat}(h:Apart n p){k:Nat}(hk:k<p.length):gI p k ∉ p.take k:=by
 rw[mem_take];rintro⟨i,h1,h2,h3⟩;exact h.2 i k h1 hk h3
theorem addF_at(h:Apart u.length p)(hk:k<p.length):gI (addF u (p.take k) x) (gI p k).toNat=gI u (gI p k).toNat:=by
 have hb:=h.1 k hk;rw[gI_addF (by omega),if_neg];rw[Int.toNat_of_nonneg hb.1];exact not_mem h hk
theorem addF_step(h:Apart u.length p)(hk:k<p.length):
  (addF u (p.take k) x).set (gI p k).toNat (gI u (gI p k).toNat+x)=addF u (p.take (k+1)) x:=by
 have hb:=h.1 k hk;refine ext_gI (by simp[addF_len]) fun j hj=>?_
 simp[addF_len]at hj;rw[gI_set (by rw[addF_len];exact hj),gI_addF hj,gI_addF hj]
 have hm:(j:Int)∈p.take (k+1)↔(j:Int)∈p.take k∨gI p k=j:=by
  rw[mem_take,mem_take];constructor
  ·rintro⟨i,h1,h2,h3⟩;by_cases e:i=k
   ·subst e;exact .inr h3
   ·exact .inl ⟨i,by omega,h2,h3⟩
  ·rintro(⟨i,h1,h2,h3⟩|h3)
   ·exact⟨i,by omega,h2,h3⟩
   ·exact⟨k,by omega,hk,h3⟩
 by_cases e:(gI p k).toNat=j
 ·have e':gI p k=j:=by omega
  rw[if_pos e,if_pos (hm.2 (.inr e'))];rw[←e]
 ·have e': ¬gI p k=j:=by omega
  rw[if_neg e];by_cases m:(j:Int)∈p.take k
  ·rw[if_pos m,if_pos (hm.2 (.inl m))]
  ·rw[if_neg m,if_neg (fun h=>(hm.1 h).elim m e')]
theorem addF_full:addF u (p.take p.length) x=addF u p x:=by rw[List.take_length]
def resS(l:List (Int×Int))(u:List Int)(x:Int):List Int→Int→Int×Int
 |[],_=>(0,-1)
 |n :: r,c=>if nC l n.toNat-gI u n.toNat<x then (c,n) else resS l u x r (c+1)
def resF(l:List (Int×Int))(u:List Int)(n x:Int):Int×Int:=
 if (pathF l 3 n).length=0 then (18,-1) else if x<0 then (1,-1) else resS l u x (pathF l 3 n) 12
def resU(l:List (Int×Int))(u:List Int)(n x:Int):List Int:=if (resF l u n x).1=0 then addF u (pathF l 3 n) x else u
theorem drop_at(h:k<p.length):p.drop k=gI p k :: p.drop (k+1):=by
 rw[List.drop_eq_getElem_cons h];simp[gI,h]
theorem resS_no(h:k<p.length)(h':nC l (gI p k).toNat-gI u (gI p k).toNat<x):resS l u x (p.drop k) c=(c,gI p k):=by
 rw[drop_at h,resS,if_pos h']
theorem resS_go(h:k<p.length)(h': ¬nC l (gI p k).toNat-gI u (gI p k).toNat<x):resS l u x (p.drop k) c=resS l u x (p.drop (k+1)) (c+1):=by
 rw[drop_at h,resS,if_neg h']
theorem resS_end:resS l u x (p.drop p.length) c=(0,-1):=by rw[List.drop_length];rfl
def relF(l:List (Int×Int))(u:List Int)(n x:Int):Bool:=decide (0<(pathF l 3 n).length)&&decide (0≤x)&&(pathF l 3 n).all fun m=>decide (x≤gI u m.toNat)
def relU(l:List (Int×Int))(u:List Int)(n x:Int):List Int:=if relF l u n x then addF u (pathF l 3 n) (-x) else u
theorem okt_path_lt(h:Okt l): ∀(g:Nat) (n:Int) (i j:Nat),i<j→j<(pathF l g n).length→gI (pathF l g n) j<gI (pathF l g n) i
 |0,n,i,j,_,hj=>by simp[pathF]at hj
 |g+1,n,i,j,hij,hj=>by
  by_cases hin:inR l.length n=true
  ·obtain⟨h0,h1⟩:=inR_of hin
   have hp:=h n.toNat (by omega)
   rw[pathF_in hin]at hj ⊢
   cases j with
   |zero=>omega
   |succ j=>
    simp at hj
    have e1:gI (n :: pathF l g (nP l n.toNat)) (j+1)=gI (pathF l g (nP l n.toNat)) j:=rfl
    rw[e1]
    cases i with
    |zero=>
     show _<n
     have hin2:inR l.length (nP l n.toNat)=true:=by
      cases hh:inR l.length (nP l n.toNat) with
      |true=>rfl
      |false=>rw[pathF_out hh]at hj;simp at hj
     have h2:=inR_of hin2
     have hle:gI (pathF l g (nP l n.toNat)) j≤nP l n.toNat:=by
      cases j with
      |zero=>
       cases g with
       |zero=>simp[pathF]at hj
       |succ g=>rw[pathF_in hin2];exact Int.le_refl _
      |succ j=>
       have:=okt_path_lt h g (nP l n.toNat) 0 (j+1) (by omega) hj
       have e0:gI (pathF l g (nP l n.toNat)) 0=nP l n.toNat:=by
        cases g with
        |zero=>simp[pathF]at hj
        |succ g=>rw[pathF_in hin2];rfl
       omega
     omega
    |succ i=>exact okt_path_lt h g _ i j (by omega) hj
  ·rw[pathF_out (by simpa using hin)]at hj;simp at hj
theorem path_in: ∀(g:Nat) (n:Int) (i:Nat),i<(pathF l g n).length→0≤gI (pathF l g n) i∧gI (pathF l g n) i<l.length
 |0,n,i,h=>by simp[pathF]at h
 |g+1,n,i,h=>by
  by_cases hin:inR l.length n=true
  ·rw[pathF_in hin]at h ⊢
   cases i with
   |zero=>exact inR_of hin
   |succ i=>exact path_in g _ i (by simpa using h)
  ·rw[pathF_out (by simpa using hin)]at h;simp at h
theorem apart_path(h:Okt l){m:Nat}(hm:m=l.length)(n:Int):Apart m (pathF l 3 n):=by
 subst hm;exact⟨fun i hi=>path_in 3 n i hi,fun i j hij hj e=>by have:=okt_path_lt h 3 n i j hij hj;omega⟩
theorem path_le3(l:List (Int×Int)): ∀(g:Nat) (n:Int),(pathF l g n).length≤g
 |0,n=>by simp[pathF]
 |g+1,n=>by
  rw[pathF]
  split
  ·have:=path_le3 l g (nP l n.toNat);simp;omega
  ·simp
theorem okt_right(h:Okt l)(h1:1≤l.length)(h2:l.length≤32)(hu:u.length=l.length)(ho:UOk u):rightF l u=true:=
 rightF_t (by rw[okt_chk h h1 h2]) hu ho
theorem resS_ok: ∀(p:List Int) (c:Int),1≤c→(resS l u x p c).1=0→ ∀i,i<p.length→x≤nC l (gI p i).toNat-gI u (gI p i).toNat
 |[],_,_,_,i,hi=>by simp at hi
 |n :: r,c,hc,h,i,hi=>by
  rw[resS]at h
  split at h
  ·simp at h;omega
  ·rename_i hn
   cases i with
   |zero=>show x≤nC l n.toNat-gI u n.toNat;omega
   |succ i=>exact resS_ok r (c+1) (by omega) h i (by simpa using hi)
theorem uok_wf(h:UOk u):WfI u:=fun i hi=>by have:=h i hi;exact⟨by omega,by omega⟩
def limF(l:List (Int×Int))(n m:Int):Int:=if inR l.length n=true then (if m<0∨4611686018427387904<m then 1 else 0) else 18
def limL(l:List (Int×Int))(n m:Int):List (Int×Int):=if limF l n m=0 then l.set n.toNat (nP l n.toNat,m) else l
theorem path_none(n:Int):(pathF l 3 n).length=0↔inR l.length n=false:=by
 constructor
 ·intro h;cases hh:inR l.length n with
  |false=>rfl
  |true=>rw[pathF_in hh]at h;simp at h
 ·intro h;rw[pathF_out h];rfl
end Cpl
namespace Own
open Go.ChangeShapes Go.WideShapes Go.ChangeAt Fix3 CrdC Cpl
def inB(x:Int):Bool:=decide (-9223372036854775808≤x∧x≤9223372036854775807)
def numV(x:Int):Int:=if inB x then x else 0
variable {x:Int} {l:List (Int×Int)} {u:List Int} {base c c' g n:Nat} {A:Option Addr} {e:TypeId} {w:World}
theorem inB_t(h: -9223372036854775808≤x)(h':x≤9223372036854775807):inB x=true:=by
 unfold inB;simp[h,h']
theorem inB_f(h:x< -9223372036854775808∨9223372036854775807<x):inB x=false:=by
 unfold inB;simp;omega
theorem inB_of(h:inB x=true): -9223372036854775808≤x∧x≤9223372036854775807:=by
 unfold inB at h;simpa using h
theorem numV_t(h:inB x=true):numV x=x:=by unfold numV;simp[h]
theorem numV_f(h:inB x=false):numV x=0:=by unfold numV;simp[h]
def Told(x:Int)(w:Go.World)(e:Ending)(w':Go.World):Prop:=e= .returned (.tuple #[.int .i64 (numV x),.bool (inB x)])∧w=w'
theorem told_t{w:Go.World}{y:Int}(h: -9223372036854775808≤x)(h':x≤9223372036854775807)(hy:y=x):Told x w (.returned (.tuple #[.int .i64 y,.bool true])) w:=by
 have:=inB_t h h';subst hy;exact⟨by rw[numV_t this,this],rfl⟩
theorem told_f{w:Go.World}(h:x< -9223372036854775808∨9223372036854775807<x):Told x w (.returned (.tuple #[.int .i64 0,.bool false])) w:=by
 have:=inB_f h;exact⟨by rw[numV_f this,this],rfl⟩
theorem told_no{w:Go.World}(h:inB x=false):Told x w (.returned (.tuple #[.int .i64 0,.bool false])) w:=
 ⟨by rw[numV_f h,h],rfl⟩
theorem add_any(a b:Int)(w:Go.World)(ha: -9223372036854775808≤a)(ha':a≤9223372036854775807)(hb: -9223372036854775808≤b)(hb':b≤9223372036854775807):
  Calls Tryz.prog 179 #[.int .i64 a,.int .i64 b] w (Told (a+b) w):=by
 by_cases h1:0<b
 ·by_cases h2:9223372036854775807-b<a
  ·go_enter Tryz.func179,Tryz.ntmps179
   go_wp2
   go_ret2;exact told_f (by omega)
  ·go_enter Tryz.func179,Tryz.ntmps179
   go_wp2
   go_ret2;exact told_t (by omega) (by omega) rfl
 ·by_cases h3:b<0
  ·by_cases h2:a< -9223372036854775808-b
   ·go_enter Tryz.func179,Tryz.ntmps179
    go_wp2
    go_ret2;exact told_f (by omega)
   ·go_enter Tryz.func179,Tryz.ntmps179
    go_wp2
    go_ret2;exact told_t (by omega) (by omega) rfl
  ·obtain rfl:b=0:=by omega
   go_enter Tryz.func179,Tryz.ntmps179
   go_wp2
   go_ret2;exact told_t (by omega) (by omega) (by omega)
theorem own_at(h:w.ownsRow base e 1 (.slice A n c) n (ints u))(h0:0<u.length):
  ∃g,A=some ⟨g,0,none⟩∧base≤g∧g<w.heap.size∧n=u.length∧(∀j,j<u.length→w.cell? ⟨g,j,none⟩=some (.int .i64 (gI u j))∧w.frozen? ⟨g,j,none⟩=false)∧
   ∀(j:Nat) (x:Int),j<u.length→(w.setCell ⟨g,j,none⟩ (.int .i64 x)).ownsRow base e 1 (.slice A n c) n (ints (u.set j x)):=by
 have hn:n=u.length:=by have:=h.1;rw[ints_len]at this;omega
 subst hn
 have hA: ∃g,A=some (α g 0)∧base≤g:=by
  rcases h.2 with⟨h1,h2⟩|⟨g,cap,cur,h1,h2,_⟩
  ·omega
  ·injection h1 with h1;exact⟨g,h1,h2⟩
 obtain⟨g,rfl,hg⟩:=hA;have hlt:=World.ownsRow.lt h g rfl;refine⟨g,rfl,hg,hlt.2,rfl,fun j hj=>⟨?_,World.ownsRow.frozenAt h j⟩,fun j x hj=>?_⟩
 ·rw[World.ownsRow.cellAt h j (by omega)];simp[ints,gI,hj]
 ·have:=World.ownsRow.stored h j (ι x);have e:(ints u).set j (ι x)=ints (u.set j x):=by simp[ints,List.map_set]
  rw[e]at this;exact this.1
theorem own_at2(h:w.ownsRow base e 2 (.slice A n c) n (nds l))(h0:0<l.length):
  ∃g,A=some ⟨g,0,none⟩∧base≤g∧g<w.heap.size∧n=l.length∧(∀j,j<l.length→w.cell? ⟨g,j*2,none⟩=some (.int .i64 (nP l j))∧w.cell? ⟨g,j*2+1,none⟩=some (.int .i64 (nC l j))∧w.frozen? ⟨g,j*2+1,none⟩=false)∧
   ∀(j:Nat) (x:Int),j<l.length→(w.setCell ⟨g,j*2+1,none⟩ (.int .i64 x)).ownsRow base e 2 (.slice A n c) n (nds (l.set j (nP l j,x))):=by
 have hn:n=l.length:=by have:=h.1;rw[nds_len]at this;omega
 subst hn
 have hA: ∃g,A=some (α g 0)∧base≤g:=by
  rcases h.2 with⟨h1,h2⟩|⟨g,cap,cur,h1,h2,_⟩
  ·omega
  ·injection h1 with h1;exact⟨g,h1,h2⟩
 obtain⟨g,rfl,hg⟩:=hA;have hlt:=World.ownsRow.lt h g rfl;refine⟨g,rfl,hg,hlt.2,rfl,fun j hj=>⟨?_,?_,World.ownsRow.frozenAt h _⟩,fun j x hj=>?_⟩
 ·rw[World.ownsRow.cellAt h _ (by omega)];exact(nds_get l j hj).1
 ·rw[World.ownsRow.cellAt h _ (by omega)];exact(nds_get l j hj).2
 ·have:=World.ownsRow.stored h (j*2+1) (ι x)
  have e:(nds l).set (j*2+1) (ι x)=nds (l.set j (nP l j,x)):=by
   clear this h hlt hg h0
   induction l generalizing j with
   |nil=>simp at hj
   |cons p l ih=>
    cases j with
    |zero=>simp[nds,ndV,nP]
    |succ j=>
     have h':=ih j (by simpa using hj);have e1:(j+1)*2+1=(j*2+1)+1+1:=by omega
     have e2:nP (p :: l) (j+1)=nP l j:=by simp[nP]
     rw[e1,e2];simpa[nds,ndV] using h'
  rw[e]at this;exact this.1
theorem own_other{base':Nat}{e':TypeId}{size size' n':Nat}{v:Value}{xs ys:List Value}(h:w.ownsRow base e size v n xs)(h':w.ownsRow base' e' size' (.slice (some ⟨g,0,none⟩) n' c') n' ys)(hne:e≠e')(j:Nat)(u:Value):
  (w.setCell ⟨g,j,none⟩ u).ownsRow base e size v n xs:=by
 refine⟨h.1,?_⟩;rcases h.2 with h2|⟨k,cap,cur,hv,hg,hh,r⟩
 ·exact .inl h2
 ·refine .inr ⟨k,cap,cur,hv,hg,?_,r⟩;rw[Below.heap_setCell _ _ _ _ ?_]
  ·exact hh
  ·rintro rfl;rcases h'.2 with⟨h1,_⟩|⟨k',cap',cur',h1,_,hh',_⟩
   ·cases h1
   ·injection h1 with h1
    injection h1 with h1
    injection h1 with h1
    subst h1;rw[hh]at hh';injection hh' with hh'
    injection hh' with _ q
    exact hne q
theorem fin_st{W:World}{A':Option Addr}{te:TypeId}{x y:Value}(o1:W.ownsRow base 102 2 (.slice A l.length c) l.length (nds l))(o2:W.ownsRow base 2 1 (.slice A' u.length c') u.length (ints u))(k:Blk W g te #[x,y])(hg:g<base)(hw:w.heap.size≤g)(hb:Below w.heap.size w W)(a b:Value):
  Nds ((W.setCell ⟨g,0,none⟩ a).setCell ⟨g,1,none⟩ b) ((W.setCell ⟨g,0,none⟩ a).setCell ⟨g,1,none⟩ b).heap.size A l∧Ris ((W.setCell ⟨g,0,none⟩ a).setCell ⟨g,1,none⟩ b) ((W.setCell ⟨g,0,none⟩ a).setCell ⟨g,1,none⟩ b).heap.size A' u∧
  Below w.heap.size w ((W.setCell ⟨g,0,none⟩ a).setCell ⟨g,1,none⟩ b)∧((W.setCell ⟨g,0,none⟩ a).setCell ⟨g,1,none⟩ b).cell? ⟨g,0,none⟩=some a∧((W.setCell ⟨g,0,none⟩ a).setCell ⟨g,1,none⟩ b).cell? ⟨g,1,none⟩=some b:=by
 have kf:=blk_set (blk_set k 0 a) 1 b;exact⟨Rd.of_own (ownsRow_setCell_below (ownsRow_setCell_below o1 hg _) hg _),Rd.of_own (ownsRow_setCell_below (ownsRow_setCell_below o2 hg _) hg _),(hb.setCell hw _).setCell hw _,by rw[kf.cell];rfl,by rw[kf.cell];rfl⟩
end Own
end Go.Proofs.YtaeddnjjeholgaaGreat
