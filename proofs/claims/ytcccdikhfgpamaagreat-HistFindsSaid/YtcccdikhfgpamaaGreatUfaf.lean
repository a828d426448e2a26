/- Texts side by side. -/
import Derived.Test.YtcccdikhfgpamaaGreatUfae
set_option linter.unusedVariables false
set_option linter.unusedSimpArgs false
set_option maxRecDepth 100000
set_option maxHeartbeats 16000000
namespace Go.Proofs.YtcccdikhfgpamaaGreat
open Kap Go.RowKit Mem Tre Ref3 Law3
namespace Cpl
open Fix3 Crd CrdB CrdC
def addF(u:List Int)(p:List Int)(x:Int):List Int:=(List.range u.length).map fun(j:Nat)=>if (j:Int)∈p then gI u j+x else gI u j
variable {c m x:Int} {l:List (Int×Int)} {p u:List Int} {j k:Nat}
theorem addF_len(u p:List Int)(x:Int):(addF u p x).length=u.length:=by simp[addF]
theorem gI_addF(h:j<u.length):gI (addF u p x) j=if (j:Int)∈p then gI u j+x else gI u j:=by
 simp[addF,gI,h]
theorem ext_gI{v:List Int}(hl:u.length=v.length)(h: ∀j,j<u.length→gI u j=gI v j):u=v:=by
 refine List.ext_getElem hl fun i a b=>?_
 have:=h i a;simpa[gI,a,b] using this
theorem addF_nil(u:List Int)(x:Int):addF u [] x=u:=ext_gI (addF_len _ _ _) fun j a=>by
 rw[addF_len]at a;rw[gI_addF a];simp
theorem gI_set(h:j<u.length):gI (u.set k x) j=if k=j then x else gI u j:=by
 unfold gI;by_cases e:k=j
 ·subst e;simp[h]
 ·simp[List.getElem?_set,e]
def Apart(n:Nat)(p:List Int):Prop:=(∀i,i<p.length→0≤gI p i∧gI p i<n)∧ ∀i j,i<j→j<p.length→gI p i≠gI p j
theorem mem_take:x∈p.take k↔ ∃i,i<k∧i<p.length∧gI p i=x:=by
 rw[List.mem_iff_getElem?];constructor
 ·rintro⟨i,b⟩;have d:=(List.getElem?_eq_some_iff.1 b).1;have a:i<k∧i<p.length:=by simp at d;omega
  refine⟨i,a.1,a.2,?_⟩;rw[List.getElem?_take,if_pos a.1]at b;simp[gI,b]
 ·rintro⟨i,d,a,e⟩;refine⟨i,?_⟩;rw[List.getElem?_take,if_pos d];simpa[gI,a] using e
theorem not_mem{n:Nat}(h:Apart n p){k:Nat}(hk:k<p.length):gI p k ∉ p.take k:=by
 rw[mem_take];rintro⟨i,a,d,b⟩;exact h.2 i k a hk b
theorem addF_at(h:Apart u.length p)(hk:k<p.length):gI (addF u (p.take k) x) (gI p k).toNat=gI u (gI p k).toNat:=by
 have a:=h.1 k hk;rw[gI_addF (by omega),if_neg];rw[Int.toNat_of_nonneg a.1];exact not_mem h hk
theorem addF_step(h:Apart u.length p)(hk:k<p.length):
  (addF u (p.take k) x).set (gI p k).toNat (gI u (gI p k).toNat+x)=addF u (p.take (k+1)) x:=by
 have o:=h.1 k hk;refine ext_gI (by simp[addF_len]) fun j b=>?_
 simp[addF_len]at b;rw[gI_set (by rw[addF_len];exact b),gI_addF b,gI_addF b]
 have d:(j:Int)∈p.take (k+1)↔(j:Int)∈p.take k∨gI p k=j:=by
  rw[mem_take,mem_take];constructor
  ·rintro⟨i,n,f,a⟩;by_cases e:i=k
   ·subst e;exact .inr a
   ·exact .inl ⟨i,by omega,f,a⟩
  ·rintro(⟨i,n,f,a⟩|a)
   ·exact⟨i,by omega,f,a⟩
   ·exact⟨k,by omega,hk,a⟩
 by_cases e:(gI p k).toNat=j
 ·have g:gI p k=j:=by omega
  rw[if_pos e,if_pos (d.2 (.inr g))];rw[←e]
 ·have g: ¬gI p k=j:=by omega
  rw[if_neg e];by_cases m:(j:Int)∈p.take k
  ·rw[if_pos m,if_pos (d.2 (.inl m))]
  ·rw[if_neg m,if_neg (fun h=>(d.1 h).elim m g)]
theorem addF_full:addF u (p.take p.length) x=addF u p x:=by rw[List.take_length]
def resS(l:List (Int×Int))(u:List Int)(x:Int):List Int→Int→Int×Int
 |[],_=>(0,-1)
 |n :: r,c=>if nC l n.toNat-gI u n.toNat<x then (c,n) else resS l u x r (c+1)
def resF(l:List (Int×Int))(u:List Int)(n x:Int):Int×Int:=
 if (pathF l 3 n).length=0 then (18,-1) else if x<0 then (1,-1) else resS l u x (pathF l 3 n) 12
def resU(l:List (Int×Int))(u:List Int)(n x:Int):List Int:=if (resF l u n x).1=0 then addF u (pathF l 3 n) x else u
theorem drop_at(h:k<p.length):p.drop k=gI p k :: p.drop (k+1):=by
 rw[List.drop_eq_getElem_cons h];simp[gI,h]
theorem resS_no(h:k<p.length)(h':nC l (gI p k).toNat-gI u (gI p k).toNat<x):resS l u x (p.drop k) c=(c,gI p k):=by
 rw[drop_at h,resS,if_pos h']
theorem resS_go(h:k<p.length)(h': ¬nC l (gI p k).toNat-gI u (gI p k).toNat<x):resS l u x (p.drop k) c=resS l u x (p.drop (k+1)) (c+1):=by
 rw[drop_at h,resS,if_neg h']
theorem resS_end:resS l u x (p.drop p.length) c=(0,-1):=by rw[List.drop_length];rfl
def relF(l:List (Int×Int))(u:List Int)(n x:Int):Bool:=decide (0<(pathF l 3 n).length)&&decide (0≤x)&&(pathF l 3 n).all fun m=>decide (x≤gI u m.toNat)
def relU(l:List (Int×Int))(u:List Int)(n x:Int):List Int:=if relF l u n x then addF u (pathF l 3 n) (-x) else u
theorem okt_path_lt(h:Okt l): ∀(g:Nat) (n:Int) (i j:Nat),i<j→j<(pathF l g n).length→gI (pathF l g n) j<gI (pathF l g n) i
 |0,n,i,j,_,hj=>by simp[pathF]at hj
 |g+1,n,i,j,hij,hj=>by
  by_cases hin:inR l.length n=true
  ·obtain⟨h0,h1⟩:=inR_of hin
   have e:=h n.toNat (by omega)
   rw[pathF_in hin]at hj ⊢
   cases j with
   |zero=>omega
   |succ j=>
    simp at hj
    have b:gI (n :: pathF l g (nP l n.toNat)) (j+1)=gI (pathF l g (nP l n.toNat)) j:=rfl
    rw[b]
    cases i with
    |zero=>
     show _<n
     have a:inR l.length (nP l n.toNat)=true:=by
      cases hh:inR l.length (nP l n.toNat) with
      |true=>rfl
      |false=>rw[pathF_out hh]at hj;simp at hj
     have f:=inR_of a
     have d:gI (pathF l g (nP l n.toNat)) j≤nP l n.toNat:=by
      cases j with
      |zero=>
       cases g with
       |zero=>simp[pathF]at hj
       |succ g=>rw[pathF_in a];exact Int.le_refl _
      |succ j=>
       have:=okt_path_lt h g (nP l n.toNat) 0 (j+1) (by omega) hj
       have o:gI (pathF l g (nP l n.toNat)) 0=nP l n.toNat:=by
        cases g with
        |zero=>simp[pathF]at hj
        |succ g=>rw[pathF_in a];rfl
       omega
     omega
    |succ i=>exact okt_path_lt h g _ i j (by omega) hj
  ·rw[pathF_out (by simpa using hin)]at hj;simp at hj
theorem path_in: ∀(g:Nat) (n:Int) (i:Nat),i<(pathF l g n).length→0≤gI (pathF l g n) i∧gI (pathF l g n) i<l.length
 |0,n,i,h=>by simp[pathF]at h
 |g+1,n,i,h=>by
  by_cases hin:inR l.length n=true
  ·rw[pathF_in hin]at h ⊢
   cases i with
   |zero=>exact inR_of hin
   |succ i=>exact path_in g _ i (by simpa using h)
  ·rw[pathF_out (by simpa using hin)]at h;simp at h
theorem apart_path(h:Okt l){m:Nat}(hm:m=l.length)(n:Int):Apart m (pathF l 3 n):=by
 subst hm;exact⟨fun i b=>path_in 3 n i b,fun i j a d e=>by have:=okt_path_lt h 3 n i j a d;omega⟩
theorem path_le3(l:List (Int×Int)): ∀(g:Nat) (n:Int),(pathF l g n).length≤g
 |0,n=>by simp[pathF]
 |g+1,n=>by
  rw[pathF]
  split
  ·have:=path_le3 l g (nP l n.toNat);simp;omega
  ·simp
theorem okt_right(h:Okt l)(h1:1≤l.length)(h2:l.length≤32)(hu:u.length=l.length)(ho:UOk u):rightF l u=true:=
 rightF_t (by rw[okt_chk h h1 h2]) hu ho
theorem resS_ok: ∀(p:List Int) (c:Int),1≤c→(resS l u x p c).1=0→ ∀i,i<p.length→x≤nC l (gI p i).toNat-gI u (gI p i).toNat
 |[],_,_,_,i,hi=>by simp at hi
 |n :: r,c,hc,h,i,hi=>by
  rw[resS]at h
  split at h
  ·simp at h;omega
  ·rename_i hn
   cases i with
   |zero=>show x≤nC l n.toNat-gI u n.toNat;omega
   |succ i=>exact resS_ok r (c+1) (by omega) h i (by simpa using hi)
theorem uok_res(hl:Okt l)(hu:u.length=l.length)(ho:UOk u)(n x:Int):UOk (resU l u n x)∧(resU l u n x).length=u.length:=by
 unfold resU;by_cases h:(resF l u n x).1=0
 ·rw[if_pos h];refine⟨fun j a=>?_,addF_len _ _ _⟩;rw[addF_len]at a;rw[gI_addF a];have b:=ho j a;split
  ·rename_i hm
   obtain⟨i,_,d,e⟩:=(mem_take (k:=(pathF l 3 n).length)).1 (by rw[List.take_length];exact hm);unfold resF at h;split at h
   ·simp at h
   ·split at h
    ·simp at h
    ·have f:=resS_ok _ _ (by decide) h i d;rw[e,Int.toNat_natCast]at f;have g:=hl j (by omega);omega
  ·exact b
 ·rw[if_neg h];exact⟨ho,rfl⟩
theorem uok_rel(ho:UOk u)(n x:Int):UOk (relU l u n x)∧(relU l u n x).length=u.length:=by
 unfold relU;by_cases h:relF l u n x=true
 ·rw[if_pos h];refine⟨fun j a=>?_,addF_len _ _ _⟩;rw[addF_len]at a;rw[gI_addF a];have b:=ho j a;simp only[relF,Bool.and_eq_true,decide_eq_true_eq,List.all_eq_true]at h;split
  ·rename_i hm
   have:=h.2 _ hm;rw[Int.toNat_natCast]at this;omega
  ·exact b
 ·rw[if_neg h];exact⟨ho,rfl⟩
theorem uok_wf(h:UOk u):WfI u:=fun i a=>by have:=h i a;exact⟨by omega,by omega⟩
def limF(l:List (Int×Int))(n m:Int):Int:=if inR l.length n=true then (if m<0∨4611686018427387904<m then 1 else 0) else 18
def limL(l:List (Int×Int))(n m:Int):List (Int×Int):=if limF l n m=0 then l.set n.toNat (nP l n.toNat,m) else l
theorem path_none(n:Int):(pathF l 3 n).length=0↔inR l.length n=false:=by
 constructor
 ·intro h;cases hh:inR l.length n with
  |false=>rfl
  |true=>rw[pathF_in hh]at h;simp at h
 ·intro h;rw[pathF_out h];rfl
theorem nP_set:nP (l.set k (nP l k,m)) j=nP l j:=by
 unfold nP;by_cases e:k=j
 ·subst e;by_cases hk:k<l.length
  ·simp[hk]
  ·simp[List.getElem?_eq_none (Nat.le_of_not_lt hk),hk]
 ·simp[List.getElem?_set,e]
theorem nC_set(h:j<l.length):nC (l.set k (nP l k,m)) j=if k=j then m else nC l j:=by
 unfold nC;by_cases e:k=j
 ·subst e;simp[h]
 ·simp[List.getElem?_set,e]
theorem top_set: ∀(d a:Nat),top (l.set k (nP l k,m)) d a=top l d a
 |0,_=>rfl
 |d+1,a=>by rw[top,top,nP_set,top_set d]
theorem okt_lim(h:Okt l)(n m:Int):Okt (limL l n m)∧(limL l n m).length=l.length:=by
 unfold limL limF;by_cases hi:inR l.length n=true
 ·rw[if_pos hi];by_cases hm:m<0∨4611686018427387904<m
  ·rw[if_pos hm,if_neg (by decide)];exact⟨h,rfl⟩
  ·rw[if_neg hm,if_pos rfl];refine⟨fun i a=>?_,by simp⟩;rw[List.length_set]at a;have:=h i a;rw[nP_set,nC_set a,top_set];refine⟨this.1,this.2.1,?_,?_,this.2.2.2.2⟩
   ·split<;>omega
   ·split<;>omega
 ·rw[if_neg hi,if_neg (by decide)];exact⟨h,rfl⟩
end Cpl
namespace Own
open Go.ChangeShapes Go.WideShapes Go.ChangeAt Fix3 Crd CrdB CrdC Cpl
def inB(x:Int):Bool:=decide (-9223372036854775808≤x∧x≤9223372036854775807)
def numV(x:Int):Int:=if inB x then x else 0
variable {x:Int} {l:List (Int×Int)} {u:List Int} {base c c' g n:Nat} {A:Option Addr} {e:TypeId} {w:World}
theorem inB_t(h: -9223372036854775808≤x)(h':x≤9223372036854775807):inB x=true:=by
 unfold inB;simp[h,h']
theorem inB_f(h:x< -9223372036854775808∨9223372036854775807<x):inB x=false:=by
 unfold inB;simp;omega
theorem inB_of(h:inB x=true): -9223372036854775808≤x∧x≤9223372036854775807:=by
 unfold inB at h;simpa using h
theorem numV_t(h:inB x=true):numV x=x:=by unfold numV;simp[h]
theorem numV_f(h:inB x=false):numV x=0:=by unfold numV;simp[h]
def Told(x:Int)(w:Go.World)(e:Ending)(w':Go.World):Prop:=e= .returned (.tuple #[.int .i64 (numV x),.bool (inB x)])∧w=w'
theorem told_t{w:Go.World}{y:Int}(h: -9223372036854775808≤x)(h':x≤9223372036854775807)(hy:y=x):Told x w (.returned (.tuple #[.int .i64 y,.bool true])) w:=by
 have:=inB_t h h';subst hy;exact⟨by rw[numV_t this,this],rfl⟩
theorem told_f{w:Go.World}(h:x< -9223372036854775808∨9223372036854775807<x):Told x w (.returned (.tuple #[.int .i64 0,.bool false])) w:=by
 have:=inB_f h;exact⟨by rw[numV_f this,this],rfl⟩
theorem told_no{w:Go.World}(h:inB x=false):Told x w (.returned (.tuple #[.int .i64 0,.bool false])) w:=
 ⟨by rw[numV_f h,h],rfl⟩
theorem add_any(a b:Int)(w:Go.World)(ha: -9223372036854775808≤a)(ha':a≤9223372036854775807)(hb: -9223372036854775808≤b)(hb':b≤9223372036854775807):
  Calls Tryz.prog 135 #[.int .i64 a,.int .i64 b] w (Told (a+b) w):=by
 by_cases h1:0<b
 ·by_cases h2:9223372036854775807-b<a
  ·go_enter Tryz.func135,Tryz.ntmps135
   go_wp2
   go_ret2;exact told_f (by omega)
  ·go_enter Tryz.func135,Tryz.ntmps135
   go_wp2
   go_ret2;exact told_t (by omega) (by omega) rfl
 ·by_cases h3:b<0
  ·by_cases h2:a< -9223372036854775808-b
   ·go_enter Tryz.func135,Tryz.ntmps135
    go_wp2
    go_ret2;exact told_f (by omega)
   ·go_enter Tryz.func135,Tryz.ntmps135
    go_wp2
    go_ret2;exact told_t (by omega) (by omega) rfl
  ·obtain rfl:b=0:=by omega
   go_enter Tryz.func135,Tryz.ntmps135
   go_wp2
   go_ret2;exact told_t (by omega) (by omega) (by omega)
theorem own_at(h:w.ownsRow base e 1 (.slice A n c) n (ints u))(h0:0<u.length):
  ∃g,A=some ⟨g,0,none⟩∧base≤g∧g<w.heap.size∧n=u.length∧(∀j,j<u.length→w.cell? ⟨g,j,none⟩=some (.int .i64 (gI u j))∧w.frozen? ⟨g,j,none⟩=false)∧
   ∀(j:Nat) (x:Int),j<u.length→(w.setCell ⟨g,j,none⟩ (.int .i64 x)).ownsRow base e 1 (.slice A n c) n (ints (u.set j x)):=by
 have i:n=u.length:=by have:=h.1;rw[ints_len]at this;omega
 subst i
 have hA: ∃g,A=some (α g 0)∧base≤g:=by
  rcases h.2 with⟨a,d⟩|⟨g,k,m,a,d,_⟩
  ·omega
  ·injection a with a;exact⟨g,a,d⟩
 obtain⟨g,rfl,o⟩:=hA;have b:=World.ownsRow.lt h g rfl;refine⟨g,rfl,o,b.2,rfl,fun j f=>⟨?_,World.ownsRow.frozenAt h j⟩,fun j x f=>?_⟩
 ·rw[World.ownsRow.cellAt h j (by omega)];simp[ints,gI,f]
 ·have:=World.ownsRow.stored h j (ι x);have e:(ints u).set j (ι x)=ints (u.set j x):=by simp[ints,List.map_set]
  rw[e]at this;exact this.1
theorem own_at2(h:w.ownsRow base e 2 (.slice A n c) n (nds l))(h0:0<l.length):
  ∃g,A=some ⟨g,0,none⟩∧base≤g∧g<w.heap.size∧n=l.length∧(∀j,j<l.length→w.cell? ⟨g,j*2,none⟩=some (.int .i64 (nP l j))∧w.cell? ⟨g,j*2+1,none⟩=some (.int .i64 (nC l j))∧w.frozen? ⟨g,j*2+1,none⟩=false)∧
   ∀(j:Nat) (x:Int),j<l.length→(w.setCell ⟨g,j*2+1,none⟩ (.int .i64 x)).ownsRow base e 2 (.slice A n c) n (nds (l.set j (nP l j,x))):=by
 have k:n=l.length:=by have:=h.1;rw[nds_len]at this;omega
 subst k
 have hA: ∃g,A=some (α g 0)∧base≤g:=by
  rcases h.2 with⟨d,f⟩|⟨g,m,o,d,f,_⟩
  ·omega
  ·injection d with d;exact⟨g,d,f⟩
 obtain⟨g,rfl,i⟩:=hA;have a:=World.ownsRow.lt h g rfl;refine⟨g,rfl,i,a.2,rfl,fun j b=>⟨?_,?_,World.ownsRow.frozenAt h _⟩,fun j x b=>?_⟩
 ·rw[World.ownsRow.cellAt h _ (by omega)];exact(nds_get l j b).1
 ·rw[World.ownsRow.cellAt h _ (by omega)];exact(nds_get l j b).2
 ·have:=World.ownsRow.stored h (j*2+1) (ι x)
  have e:(nds l).set (j*2+1) (ι x)=nds (l.set j (nP l j,x)):=by
   clear this h a i h0
   induction l generalizing j with
   |nil=>simp at b
   |cons p l ih=>
    cases j with
    |zero=>simp[nds,ndV,nP]
    |succ j=>
     have q:=ih j (by simpa using b);have r:(j+1)*2+1=(j*2+1)+1+1:=by omega
     have s:nP (p :: l) (j+1)=nP l j:=by simp[nP]
     rw[r,s];simpa[nds,ndV] using q
  rw[e]at this;exact this.1
theorem own_other{base':Nat}{e':TypeId}{size size' n':Nat}{v:Value}{xs ys:List Value}(h:w.ownsRow base e size v n xs)(h':w.ownsRow base' e' size' (.slice (some ⟨g,0,none⟩) n' c') n' ys)(hne:e≠e')(j:Nat)(u:Value):
  (w.setCell ⟨g,j,none⟩ u).ownsRow base e size v n xs:=by
 refine⟨h.1,?_⟩;rcases h.2 with h2|⟨k,cap,cur,hv,hg,hh,r⟩
 ·exact .inl h2
 ·refine .inr ⟨k,cap,cur,hv,hg,?_,r⟩;rw[Below.heap_setCell _ _ _ _ ?_]
  ·exact hh
  ·rintro rfl;rcases h'.2 with⟨a,_⟩|⟨i,d,f,a,_,b,_⟩
   ·cases a
   ·injection a with a
    injection a with a
    injection a with a
    subst a;rw[hh]at b;injection b with b
    injection b with _ q
    exact hne q
theorem fin_st{W:World}{A':Option Addr}{te:TypeId}{x y:Value}(o1:W.ownsRow base 151 2 (.slice A l.length c) l.length (nds l))(o2:W.ownsRow base 2 1 (.slice A' u.length c') u.length (ints u))(k:Blk W g te #[x,y])(hg:g<base)(hw:w.heap.size≤g)(hb:Below w.heap.size w W)(a b:Value):
  Nds ((W.setCell ⟨g,0,none⟩ a).setCell ⟨g,1,none⟩ b) ((W.setCell ⟨g,0,none⟩ a).setCell ⟨g,1,none⟩ b).heap.size A l∧Ris ((W.setCell ⟨g,0,none⟩ a).setCell ⟨g,1,none⟩ b) ((W.setCell ⟨g,0,none⟩ a).setCell ⟨g,1,none⟩ b).heap.size A' u∧
  Below w.heap.size w ((W.setCell ⟨g,0,none⟩ a).setCell ⟨g,1,none⟩ b)∧((W.setCell ⟨g,0,none⟩ a).setCell ⟨g,1,none⟩ b).cell? ⟨g,0,none⟩=some a∧((W.setCell ⟨g,0,none⟩ a).setCell ⟨g,1,none⟩ b).cell? ⟨g,1,none⟩=some b:=by
 have d:=blk_set (blk_set k 0 a) 1 b;exact⟨Rd.of_own (ownsRow_setCell_below (ownsRow_setCell_below o1 hg _) hg _),Rd.of_own (ownsRow_setCell_below (ownsRow_setCell_below o2 hg _) hg _),(hb.setCell hw _).setCell hw _,by rw[d.cell];rfl,by rw[d.cell];rfl⟩
end Own
namespace Res
open Abv Go.ChangeShapes Go.WideShapes Go.ChangeAt Fix3 Crd CrdB CrdC Cpl Own
structure GoodSt(l:List (Int×Int))(u:List Int):Prop where
 okt:Okt l
 one:1≤l.length
 few:l.length≤32
 len:u.length=l.length
 uok:UOk u
variable {l:List (Int×Int)} {u:List Int} {c c' c1 c2:Nat} {A A' A1 A2:Option Addr} {x y:Value} {W w:World}
theorem GoodSt.right(h:GoodSt l u):rightF l u=true:=okt_right h.okt h.one h.few h.len h.uok
theorem GoodSt.wf(h:GoodSt l u):WfN l:=okt_wf h.okt h.few
theorem GoodSt.wfi(h:GoodSt l u):WfI u:=uok_wf h.uok
structure Owned(w W:World)(A1 A2:Option Addr)(c1 c2:Nat)(l:List (Int×Int))(u:List Int):Prop where
 o1:W.ownsRow (w.heap.size+2) 151 2 (.slice A1 l.length c1) l.length (nds l)
 o2:W.ownsRow (w.heap.size+2) 2 1 (.slice A2 u.length c2) u.length (ints u)
 k3:Blk W w.heap.size 142 #[.slice A1 l.length c1,.slice A2 u.length c2]
 k6:Blk W (w.heap.size+1) 142 #[.slice none 0 0,.slice none 0 0]
 bl:Below w.heap.size w W
theorem Owned.below{W':World}(h:Owned w W A1 A2 c1 c2 l u)(hb:Below W.heap.size W W'):Owned w W' A1 A2 c1 c2 l u:=
 ⟨own_below h.o1 hb,own_below h.o2 hb,Blk.below' h.k3 hb,Blk.below' h.k6 hb,below_step h.bl hb⟩
theorem owned_mk{w1:World}{A A':Option Addr}{c c':Nat}(k3:Blk w1 w.heap.size 142 #[x,y])(k6:Blk w1 (w.heap.size+1) 142 #[.slice none 0 0,.slice none 0 0])(bl:Below w.heap.size w w1)
  {base:Nat}(hbase:w.heap.size+2≤base)(o1:OwnN base w1 A1 c1 l)(o2:OwnI base w1 A2 c2 u):
  Owned w ((w1.setCell ⟨w.heap.size,0,none⟩ (.slice A1 l.length c1)).setCell ⟨w.heap.size,1,none⟩ (.slice A2 u.length c2)) A1 A2 c1 c2 l u:=
 ⟨ownsRow_setCell_below (ownsRow_setCell_below (own_mono o1 hbase) (by simp) _) (by simp) _,ownsRow_setCell_below (ownsRow_setCell_below (own_mono o2 hbase) (by simp) _) (by simp) _,
  blk_set (blk_set k3 0 _) 1 _,blk_far (blk_far k6 (by simp) _) (by simp) _,(bl.setCell (by simp) _).setCell (by simp) _⟩
structure Pre(w W:World)(x y:Value)(A1 A2:Option Addr)(c1 c2:Nat)(l:List (Int×Int))(u:List Int):Prop where
 o1:W.ownsRow (w.heap.size+2) 151 2 (.slice A1 l.length c1) l.length (nds l)
 o2:W.ownsRow (w.heap.size+2) 2 1 (.slice A2 u.length c2) u.length (ints u)
 k3:Blk W w.heap.size 142 #[x,y]
 k6:Blk W (w.heap.size+1) 142 #[.slice none 0 0,.slice none 0 0]
 bl:Below w.heap.size w W
theorem Pre.store(h:Pre w W x y A1 A2 c1 c2 l u):
  Owned w ((W.setCell ⟨w.heap.size,0,none⟩ (.slice A1 l.length c1)).setCell ⟨w.heap.size,1,none⟩ (.slice A2 u.length c2)) A1 A2 c1 c2 l u:=
 owned_mk (A:=none) (A':=none) (c:=0) (c':=0) h.k3 h.k6 h.bl τ h.o1 h.o2
def Start(w:World)(x y:Value)(l:List (Int×Int))(u:List Int)(e:Ending)(W:World):Prop:=
 ∃A1 c1 A2 c2,e= .returned (.agg #[.slice A1 l.length c1,.slice A2 u.length c2])∧Pre w W x y A1 A2 c1 c2 l u
theorem start_own(A A':Option Addr)(c c':Nat)(l:List (Int×Int))(u:List Int)(w:World)(hl:Hid (Nds w w.heap.size A l))(hu:Hid (Ris w w.heap.size A' u))(h1:(l.length:Int)≤32)(h2:(u.length:Int)≤32):
  Calls Tryz.prog 133 #[.agg #[.slice A l.length c,.slice A' u.length c']] ((w.alloc (.cells #[.slice A l.length c,.slice A' u.length c'] 142)).alloc (.cells #[.slice none 0 0,.slice none 0 0] 142)) (Start w (.slice A l.length c) (.slice A' u.length c') l u):=by
 have a:=γ w (.cells (vS A l.length c A' u.length c') 142) (.cells (vS none 0 0 none 0 0) 142);have d:=(Blk.fresh w 142 (vS A l.length c A' u.length c')).alloc (.cells (vS none 0 0 none 0 0) 142)
 have f:Blk ((w.alloc (.cells (vS A l.length c A' u.length c') 142)).alloc (.cells (vS none 0 0 none 0 0) 142)) (w.heap.size+1) 142 (vS none 0 0 none 0 0):=by
  have:=Blk.fresh (w.alloc (.cells (vS A l.length c A' u.length c') 142)) 142 (vS none 0 0 none 0 0);simp only[World.size_alloc]at this;exact this
 refine(own_any A A' c c' l u _ (Rd.below' hl.o a a.size) (Rd.below' hu.o a a.size) (by omega) (by omega)).mono ?_;rintro e W ⟨A1,c1,A2,c2,rfl,g,h,b⟩;exact⟨A1,c1,A2,c2,rfl,own_mono g (by simp),own_mono h (by simp),Blk.below' d b,Blk.below' f b,below_step a b⟩
end Res
namespace Rel
open Go.ChangeShapes Go.WideShapes Go.ChangeAt Fix3 Crd CrdB CrdC Cpl Own Res
variable {n x:Int} {l:List (Int×Int)} {u:List Int}
theorem relF_0(h:(pathF l 3 n).length=0):relF l u n x=false:=by unfold relF;simp[h]
theorem relF_m(h:x<0):relF l u n x=false:=by
 unfold relF;have:decide (0≤x)=false:=by simp;omega
 simp[this]
theorem relF_no{i:Nat}(hi:i<(pathF l 3 n).length)(h:gI u (gI (pathF l 3 n) i).toNat<x):relF l u n x=false:=by
 have:((pathF l 3 n).all fun m=>decide (x≤gI u m.toNat))=false:=by
  rw[List.all_eq_false];refine⟨(pathF l 3 n)[i],List.getElem_mem hi,?_⟩;simp[gI,hi]at h ⊢;exact h
 unfold relF;rw[this,Bool.and_false]
theorem relF_t(h0:0<(pathF l 3 n).length)(hx:0≤x)(h: ∀i,i<(pathF l 3 n).length→x≤gI u (gI (pathF l 3 n) i).toNat):relF l u n x=true:=by
 have:((pathF l 3 n).all fun m=>decide (x≤gI u m.toNat))=true:=by
  rw[List.all_eq_true];intro m b;obtain⟨i,a,rfl⟩:=List.getElem_of_mem b;have:=h i a;simp[gI,a]at this;simpa[gI] using this
 unfold relF;rw[this];simp[h0,hx]
end Rel
namespace Rr4
open Abv Go.ChangeShapes Go.WideShapes Go.ChangeAt Fix3 Crd CrdB CrdC Cpl Own Res Rel Lim
variable {cs:Array Value} {news xs:List Value} {Bx b base c g j m n nm size:Nat} {A:Option Addr} {P:Program} {e te:TypeId} {v:Value} {W w:World}
theorem grown_refl(w:World)(row:Option Nat):w.grownBy w row:=⟨rfl,rfl,rfl,τ,fun _ _ _=>rfl⟩
theorem run_appG(hown:w.ownsRow base e size v n xs)(hr:Rd w Bx A news)(hnm:nm=n+m)(t ty:TypeId)
  (i:TypeInfo)(z:Value)(bytes:Nat)(ht:P.underlying t=some (.slice e))(hi:P.info? e=some i)(hz:i.zero=some z)
  (hsize:i.size=size)(hby:i.bytes=bytes)(hzs:z.cells.size=size)(hsz:0<size)
  (hl:news.length=m*size)(h1: ∀u∈news,u.oneCell'=true)
  (h63:n+m≤maxLen)(hbytes:(n+m)*bytes≤140737488355328)(hbase:base≤w.heap.size):
  ∃A' c' w',(Builtin.append_ #[t,t] ty #[v,.slice A m c]).run P w= .ok (.slice A' nm c') w'∧w'.ownsRow base e size (.slice A' nm c') nm (xs++news)∧w.grownBy w' v.ownBlock:=by
 subst hnm;cases A with
 |none=>
  have l:news=[]:=by
   rcases hr with h|⟨b,o,h,_⟩
   ·exact h
   ·cases h
  subst l
  have p:m=0:=by
   rcases Nat.eq_zero_or_pos m with h|h
   ·exact h
   ·have:=Nat.mul_pos h hsz;simp at hl;omega
  subst p;obtain⟨A',c',rfl,_⟩:=own_form hown;exact⟨A',c',w,run_appNil w base t ty e i size ht hi _ n xs hown c,by simpa using hown,grown_refl _ _⟩
 |some ad=>
  have d: ∀j u,news[j]? =some u→w.cell? (ad.add j)=some u:=by
   intro j u k;rcases hr with h|⟨b,o,h,_,hc⟩
   ·subst h;simp at k
   ·injection h with h
    subst h;rw[show(⟨b,o,none⟩:Addr).add j=⟨b,o+j,none⟩ by unfold Addr.add;split<;>simp_all];exact hc j u k
  obtain⟨r,w',f,a,q,_⟩:=run_append_own (P:=P) w base t ty e i z size bytes ht hi hz hsize hby hzs hsz v n xs hown ad m c news hl d h1 h63 hbytes hbase;obtain⟨A',c',rfl,_⟩:=own_form a;exact⟨A',c',w',f,a,q⟩
theorem step_appG{ops:Array Oper}{o:Oper}{a:Act}{K:Act→World→Prop}{Q:Exit→Act→World→Prop}{E:Prop}(hown:Hid (w.ownsRow base e size v n xs))(hr:Hid (Rd w Bx A news))(hnm:nm=n+m)(hgd:o.guard=none)(s x:Operand)(t:TypeId)
  (ho:o.op= .call {callee:= .builtin .append,args:= #[s,x],argTypes:= #[t,t]})
  (i:TypeInfo)(z:Value)(bytes:Nat)(ht:P.underlying t=some (.slice e))(hi:P.info? e=some i)(hz:i.zero=some z)
  (hsize:i.size=size)(hby:i.bytes=bytes)(hzs:z.cells.size=size)(hsz:0<size)
  (hs:a.eval s=v)(hx:a.eval x= .slice A m c)(hl:news.length=m*size)(h1: ∀u∈news,u.oneCell'=true)
  (h63:n+m≤maxLen)(hbytes:(n+m)*bytes≤140737488355328)(hbase:base≤w.heap.size)
  (h: ∀A' c' w',Hid (w'.ownsRow base e size (.slice A' nm c') nm (xs++news))→w.grownBy w' v.ownBlock→K (a.put o.dst (.slice A' nm c')) w'):
  if Region.wanted o (yielded ops a.tmps)=true then Oper.wp P o a w K Q else E:=by
 have f:Region.wanted o (yielded ops a.tmps)=true:=by simp[Region.wanted,hgd]
 rw[if_pos f];obtain⟨A',c',w',d,k,l⟩:=run_appG (P:=P) hown.o hr.o hnm t o.type i z bytes ht hi hz hsize hby hzs hsz hl h1 h63 hbytes hbase (c:=c);unfold Oper.wp execOp;simp only[ho,resolve,invoke,builtin,Sem.run_bind,Sem.run_pure,Result.andThen_ok,List.map_toArray,List.map_cons,List.map_nil,hs,hx,d];exact h A' c' w' k l
theorem own_set2(h:w.ownsRow base e size v n xs)(hk:Blk w g te cs)(hne:e≠te)(x y:Value):
  ((w.setCell ⟨g,0,none⟩ x).setCell ⟨g,1,none⟩ y).ownsRow base e size v n xs:=by
 refine⟨h.1,?_⟩;rcases h.2 with h2|⟨k,cap,cur,hv,hg,hh,r⟩
 ·exact .inl h2
 ·have a:k≠g:=by
   rintro rfl;unfold Blk at hk;rw[hh]at hk;injection hk with hk
   injection hk with _ q
   exact hne q
  refine .inr ⟨k,cap,cur,hv,hg,?_,r⟩;rw[Below.heap_setCell _ _ _ _ (by exact a),Below.heap_setCell _ _ _ _ (by exact a)];exact hh
theorem Blk_grown{w':World}{row:Option Nat}(h:Blk w g te cs)(hg:w.grownBy w' row)(hne:some g≠row):Blk w' g te cs:=(hg.block g h.lt hne).trans h
theorem blk_ne{n' c':Nat}{a a':Option Addr}{k:IntKind}{x:Int}(h:Blk W g te #[.slice a n c,.slice a' n' c'])(hc:W.cell? ⟨b,j,none⟩=some (.int k x)):b≠g:=by
 rintro rfl;rw[h.cell]at hc
 match j,hc with
 |0,hc=>simp at hc
 |1,hc=>simp at hc
 |j+2,hc=>simp at hc
theorem far2{x y:Value}(hc:W.cell? ⟨b,j,none⟩=some v)(hne:b≠g)(N:Nat):(((W.drewN N).setCell ⟨g,0,none⟩ x).setCell ⟨g,1,none⟩ y).cell? ⟨b,j,none⟩=some v:=by
 rw[World.cell?_setCell_other _ _ _ _ (by intro e;injection e with e;exact hne e.symm),World.cell?_setCell_other _ _ _ _ (by intro e;injection e with e;exact hne e.symm)];exact hc
end Rr4
namespace Apt
open Go.ChangeShapes Go.WideShapes Go.ChangeAt Rr4
variable {cs:Array Value} {g:Nat} {te:TypeId}
theorem wpList_appRG{P:Program}{w:World}{ops:Array Oper}{rest:List Oper}{o:Oper}{a:Act}{Q:Exit→Act→World→Prop}{Bx:Nat}{base:Nat}{e:TypeId}{size n m nm c:Nat}{v:Value}{xs news:List Value}{A:Option Addr}(hown:Hid (w.ownsRow base e size v n xs))(hr:Hid (Rd w Bx A news))(hnm:nm=n+m)(hgd:o.guard=none)(s x:Operand)(t:TypeId)
  (ho:o.op= .call {callee:= .builtin .append,args:= #[s,x],argTypes:= #[t,t]})
  (i:TypeInfo)(z:Value)(bytes:Nat)(ht:P.underlying t=some (.slice e))(hi:P.info? e=some i)(hz:i.zero=some z)
  (hsize:i.size=size)(hby:i.bytes=bytes)(hzs:z.cells.size=size)(hsz:0<size)
  (hs:a.eval s=v)(hx:a.eval x= .slice A m c)(hl:news.length=m*size)(h1: ∀u∈news,u.oneCell'=true)
  (h63:n+m≤maxLen)(hbytes:(n+m)*bytes≤140737488355328)(hbase:base≤w.heap.size)
  (h: ∀A' c' w',Hid (w'.ownsRow base e size (.slice A' nm c') nm (xs++news))→w.grownBy w' v.ownBlock→wpList P ops Q rest (a.put o.dst (.slice A' nm c')) w'):
  wpList P ops Q (o :: rest) a w:=by
 refine wpList_plain hgd fun _ d=>?_
 obtain⟨A',c',w',b,f,j⟩:=run_appG (P:=P) hown.o hr.o hnm t o.type i z bytes ht hi hz hsize hby hzs hsz hl h1 h63 hbytes hbase (c:=c);unfold Oper.wp execOp;simp only[ho,resolve,invoke,builtin,Sem.run_bind,Sem.run_pure,Result.andThen_ok,List.map_toArray,List.map_cons,List.map_nil,hs,hx,b];exact d _ _ (h A' c' w' f j)
section
variable {w w':World} {b1 b2:Nat} {e1 e2:TypeId} {s1 s2 n1 n2:Nat} {v1 v2:Value} {x1 x2:List Value}
theorem own_ne(h:w.ownsRow b1 e1 s1 v1 n1 x1)(k:w.ownsRow b2 e2 s2 v2 n2 x2)(hne:e1≠e2):v1.ownBlock=none∨v1.ownBlock≠v2.ownBlock:=by
 rcases h.2 with⟨rfl,_⟩|⟨g,d,f,rfl,_,i,_⟩
 ·exact .inl rfl
 ·rcases k.2 with⟨rfl,_⟩|⟨j,b,c,rfl,_,a,_⟩
  ·exact .inr (by simp[Value.ownBlock])
  ·refine .inr fun e=>?_
   simp only[Value.ownBlock,Option.some.injEq]at e;subst e;rw[i]at a;injection a with a
   injection a with _ q
   exact hne q
theorem own_grown(h:w.ownsRow b1 e1 s1 v1 n1 x1)(k:w.ownsRow b2 e2 s2 v2 n2 x2)(hne:e1≠e2)(hg:w.grownBy w' v2.ownBlock):w'.ownsRow b1 e1 s1 v1 n1 x1:=
 World.ownsRow.kept h hg (own_ne h k hne)
theorem blk_own_ne(h:Blk w g te cs)(k:w.ownsRow b2 e2 s2 v2 n2 x2)(hne:te≠e2):some g≠v2.ownBlock:=by
 rcases k.2 with⟨rfl,_⟩|⟨d,b,c,rfl,_,a,_⟩
 ·simp[Value.ownBlock]
 ·intro e;simp only[Value.ownBlock,Option.some.injEq]at e;subst e;unfold Blk at h;rw[h]at a;injection a with a
  injection a with _ q
  exact hne q
theorem blk_own_grown(h:Blk w g te cs)(k:w.ownsRow b2 e2 s2 v2 n2 x2)(hne:te≠e2)(hg:w.grownBy w' v2.ownBlock):Blk w' g te cs:=
 Blk_grown h hg (blk_own_ne h k hne)
theorem grown_below{B:Nat}{w0:World}(hb:Below B w0 w)(k:w.ownsRow b2 e2 s2 v2 n2 x2)(hg:w.grownBy w' v2.ownBlock)(hB:B≤b2)(hB':B≤w.heap.size):Below B w0 w':=
 hb.grown hg hB' (fun q a=>by have:=World.ownsRow.lt k q a;omega)
end
end Apt
end Go.Proofs.YtcccdikhfgpamaaGreat
