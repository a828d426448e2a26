/- Texts side by side. -/
import Derived.Test.YtcccdikhfgpamaaGreatUfbz
set_option linter.unusedVariables false
set_option linter.unusedSimpArgs false
set_option maxRecDepth 100000
set_option maxHeartbeats 16000000
namespace Go.Proofs.YtcccdikhfgpamaaGreat
open Mem Wpl Hpa Hpl Hqp Hmc
namespace Hfp
open Hck (chkF)
open Mds (Pm)
open Mdd (Opn doF)
def entO(P:Pm)(i:Nat)(o:Opn):He:=⟨((i%3:Nat):Int),2*(i:Int),2*(i:Int)+1,2*(i:Int)+2,o.m,o.sw,o.sx,o.ex,(doF P o).2.1,(doF P o).2.2.1⟩
def ownL:Pm→Nat→List Opn→List He
 |_,_,[]=>[]
 |P,i,o :: t=>entO P i o :: ownL (doF P o).1 (i+1) t
def allL:Pm→List Opn→List (Int×Int)
 |_,[]=>[]
 |P,o :: t=>(doF P o).2.2.2++allL (doF P o).1 t
def stF:Pm→List Opn→Pm
 |P,[]=>P
 |P,o :: t=>stF (doF P o).1 t
theorem st_snoc: ∀(O:List Opn) (P:Pm) (o:Opn),stF P (O++[o])=(doF (stF P O) o).1
 |[],_,_=>rfl
 |_ :: O,P,o=>st_snoc O _ o
theorem own_snoc: ∀(O:List Opn) (P:Pm) (i:Nat) (o:Opn),ownL P i (O++[o])=ownL P i O++[entO (stF P O) (i+O.length) o]
 |[],_,_,_=>rfl
 |a :: O,P,i,o=>by
  show entO P i a :: ownL _ (i+1) (O++[o])=entO P i a :: (ownL _ (i+1) O++_)
  rw[own_snoc O _ (i+1) o,show i+1+O.length=i+(a :: O).length by simp;omega]
  rfl
theorem all_snoc: ∀(O:List Opn) (P:Pm) (o:Opn),allL P (O++[o])=allL P O++(doF (stF P O) o).2.2.2
 |[],P,o=>by show _++[]=[]++_;simp[stF]
 |a :: O,P,o=>by show _++allL _ (O++[o])=(_++allL _ O)++_;rw[all_snoc O,List.append_assoc];rfl
def swp{α:Type}:List α→List α
 |a :: b :: t=>b :: a :: swp t
 |[a]=>[a]
 |[]=>[]
theorem swp_perm{α:Type}: ∀l:List α,(swp l).Perm l
 |[]=>List.Perm.refl _
 |[_]=>List.Perm.refl _
 |a :: b :: t=>(List.Perm.swap a b _).trans ((swp_perm t).cons b |>.cons a)
theorem swp_swp{α:Type}: ∀l:List α,swp (swp l)=l
 |[]=>rfl
 |[_]=>rfl
 |a :: b :: t=>by show a :: b :: swp (swp t)=_;rw[swp_swp t]
theorem map_swp{α β:Type}(f:α→β): ∀l:List α,(swp l).map f=swp (l.map f)
 |[]=>rfl
 |[_]=>rfl
 |a :: b :: t=>by show f b :: f a :: (swp t).map f=f b :: f a :: swp (t.map f);rw[map_swp f t]
theorem range_map(E:List He):(List.range E.length).map (gH E)=E:=by
 refine List.ext_getElem (by simp) fun i b a=>?_
 simp[gH_get a]
variable {E:List He} {k:Nat} {x:He}
theorem gH_set(hk:k<E.length)(a:Nat):gH (E.set k x) a=if a=k then x else gH E a:=by
 unfold gH;rw[List.getD,List.getD,List.getElem?_set];by_cases h:a=k
 ·subst h;simp[hk]
 ·rw[if_neg h,if_neg (fun e=>h e.symm)]
theorem chk_own: ∀(O:List Opn) (P:Pm) (i:Nat) (L:List Nat),L.map (gH E)=ownL P i O→chkL E L P= -1
 |[],_,_,[],_=>rfl
 |[],_,_,_ :: _,h=>by simp[ownL]at h
 |_ :: _,_,_,[],h=>by simp[ownL]at h
 |o :: O,P,i,a :: L,h=>by
  have h':gH E a :: L.map (gH E)=entO P i o :: ownL (doF P o).1 (i+1) O:=h
  injection h' with h1 h2
  show(if _ then _ else _)=_
  rw[h1,if_neg (by rintro⟨_,b⟩;exact b ⟨rfl,rfl⟩)]
  exact chk_own O _ (i+1) L h2
theorem let_own: ∀(O:List Opn) (P:Pm) (i:Nat) (L:List Nat),L.map (gH E)=ownL P i O→letL E L P=allL P O
 |[],_,_,[],_=>rfl
 |[],_,_,_ :: _,h=>by simp[ownL]at h
 |_ :: _,_,_,[],h=>by simp[ownL]at h
 |o :: O,P,i,a :: L,h=>by
  have h':gH E a :: L.map (gH E)=entO P i o :: ownL (doF P o).1 (i+1) O:=h
  injection h' with h1 h2
  show _++_=_++_
  rw[h1]
  rw[show letL E L (doF P (opH (entO P i o))).1=allL (doF P o).1 O from let_own O _ (i+1) L h2]
  rfl
theorem chk_set(hk:k<E.length)(ho:opH x=opH (gH E k))(he:x.e≠0)(hd: ¬(x.c=(gH E k).c∧x.d=(gH E k).d)): ∀(O:List Opn) (P:Pm) (i:Nat) (L:List Nat),L.map (gH E)=ownL P i O→k∈L→chkL (E.set k x) L P=(k:Int)
 |_,_,_,[],_,hm=>absurd hm (by simp)
 |[],_,_,_ :: _,h,_=>by simp[ownL]at h
 |o :: O,P,i,a :: L,h,hm=>by
  have h':gH E a :: L.map (gH E)=entO P i o :: ownL (doF P o).1 (i+1) O:=h
  injection h' with h1 h2
  show(if _ then _ else _)=_
  rw[gH_set hk]
  by_cases e:a=k
  ·subst e
   have b:opH x=opH (entO P i o):=by rw[ho,h1]
   rw[if_pos rfl,if_pos ⟨he,fun f=>hd ⟨f.1.symm.trans (by rw[b,h1];rfl),f.2.symm.trans (by rw[b,h1];rfl)⟩⟩]
  ·rw[if_neg e,h1,if_neg (by rintro⟨_,f⟩;exact f ⟨rfl,rfl⟩)]
   exact chk_set hk ho he hd O _ (i+1) L h2 ((List.mem_cons.1 hm).resolve_left fun h=>e h.symm)
theorem chk_zero(hk:k<E.length)(ho:opH x=opH (gH E k))(he:x.e=0): ∀(O:List Opn) (P:Pm) (i:Nat) (L:List Nat),L.map (gH E)=ownL P i O→chkL (E.set k x) L P= -1
 |[],_,_,[],_=>rfl
 |[],_,_,_ :: _,h=>by simp[ownL]at h
 |_ :: _,_,_,[],h=>by simp[ownL]at h
 |o :: O,P,i,a :: L,h=>by
  have h':gH E a :: L.map (gH E)=entO P i o :: ownL (doF P o).1 (i+1) O:=h
  injection h' with h1 h2
  show(if _ then _ else _)=_
  rw[gH_set hk]
  by_cases e:a=k
  ·have b:opH x=opH (entO P i o):=by rw[ho,←e,h1]
   rw[if_pos e,if_neg (fun h=>h.1 he),b]
   exact chk_zero hk ho he O _ (i+1) L h2
  ·rw[if_neg e,h1,if_neg (by rintro⟨_,c⟩;exact c ⟨rfl,rfl⟩)]
   exact chk_zero hk ho he O _ (i+1) L h2
theorem own_ok: ∀(O:List Opn) (P:Pm) (j:Nat),∀y∈ownL P j O,okE 3 y=true∧y.e≠0∧2*(j:Int)+1≤y.k∧y.k≤2*(j+O.length:Int)+1
 |[],_,_=>fun y hy=>absurd hy (by simp[ownL])
 |o :: O,P,j=>fun y hy=>by
  rcases List.mem_cons.1 (show y∈entO P j o :: ownL (doF P o).1 (j+1) O from hy) with rfl|h
  ·refine⟨?_,?_,?_,?_⟩
   ·have h3:((j%3:Nat):Int)<3:=by omega
    have a:(0:Int)≤((j%3:Nat):Int):=by omega
    have b:timB (2*(j:Int)) (2*(j:Int)+1) (2*(j:Int)+2)=true:=by
     have c:((2*(j:Int)+1) != 0)=true:=by simp;omega
     unfold timB;rw[decide_eq_false (show ¬2*(j:Int)<0 by omega),decide_eq_false (show ¬2*(j:Int)+1≤2*(j:Int) by omega),decide_eq_true (show 2*(j:Int)+1≤2*(j:Int)+2 by omega),c];simp
    show(decide ((0:Int)≤((j%3:Nat):Int))&&(decide (((j%3:Nat):Int)<3)&&timB (2*(j:Int)) (2*(j:Int)+1) (2*(j:Int)+2)))=true;rw[decide_eq_true a,decide_eq_true h3,b];rfl
   ·show(2*(j:Int)+2)≠0;omega
   ·show 2*(j:Int)+1≤2*(j:Int)+1;omega
   ·show 2*(j:Int)+1≤_;simp;omega
  ·obtain⟨d,f,h3,a⟩:=own_ok O _ (j+1) y h;refine⟨d,f,by simp at h3;omega,by simp at a ⊢;omega⟩
theorem own_mem: ∀(O:List Opn) (P:Pm) (j:Nat),∀y∈ownL P j O,∃o∈O,y.m=o.m∧y.sx=o.sx∧y.ex=o.ex
 |[],_,_=>fun y hy=>absurd hy (by simp[ownL])
 |o :: O,P,j=>fun y hy=>by
  rcases List.mem_cons.1 (show y∈entO P j o :: ownL (doF P o).1 (j+1) O from hy) with rfl|h
  ·exact⟨o,List.mem_cons_self ..,rfl,rfl,rfl⟩
  ·obtain⟨o',h1,h2⟩:=own_mem O _ (j+1) y h
   exact⟨o',List.mem_cons_of_mem _ h1,h2⟩
theorem own_sorted: ∀(O:List Opn) (P:Pm) (j:Nat),(ownL P j O).Pairwise (fun x y=>x.k<y.k)
 |[],_,_=>List.Pairwise.nil
 |o :: O,P,j=>List.pairwise_cons.2 ⟨fun y hy=>by
   have h:=(own_ok O _ (j+1) y hy).2.2.1
   show 2*(j:Int)+1<_
   simp at h;omega,own_sorted O _ (j+1)⟩
theorem own_len: ∀(O:List Opn) (P:Pm) (j:Nat),(ownL P j O).length=O.length
 |[],_,_=>rfl
 |o :: O,P,j=>by show(ownL _ _ O).length+1=O.length+1;rw[own_len]
theorem rgt_of{n:Int}: ∀(E:List He) (s:List Int),(∀x∈E,okE n x=true)→E.Pairwise (fun x y=>x.k≠y.k)→(∀x∈E,x.k ∉ s)→rgt n E s=true
 |[],_,_,_,_=>rfl
 |x :: t,s,h,hp,hs=>by
  have hp2:=List.pairwise_cons.1 hp
  show(okE n x&&(!(s.contains x.k)&&rgt n t (mkS x s)))=true
  rw[h x (List.mem_cons_self ..),rgt_of t _ (fun y a=>h y (List.mem_cons_of_mem _ a)) hp2.2 (fun y a b=>?_)]
  ·have:=hs x (List.mem_cons_self ..)
   simp[this]
  ·unfold mkS at b
   split at b
   ·exact hs y (List.mem_cons_of_mem _ a) b
   ·rcases List.mem_cons.1 b with e|e
    ·exact hp2.1 y a e.symm
    ·exact hs y (List.mem_cons_of_mem _ a) e
theorem own_right{O:List Opn}{P:Pm}{E':List He}(hm:O.length≤90)(hk:E'.map He.k=(swp (ownL P 0 O)).map He.k)(ho: ∀x∈E',okE 3 x=true):rightF 3 E'=true∧ordF E'=swp (List.range O.length):=by
 have l:E'.length=O.length:=by
  have h:=congrArg List.length hk;simpa[(swp_perm (ownL P 0 O)).length_eq,own_len] using h
 have g:E'.Pairwise (fun x y=>x.k≠y.k):=by
  have e:((swp (ownL P 0 O)).map He.k).Pairwise (fun a b=>a≠b):=by
   rw[List.pairwise_map];exact(List.Perm.pairwise_iff (fun h=>Ne.symm h) (swp_perm _)).2 ((own_sorted O P 0).imp fun h=>by omega)
  rw[←hk,List.pairwise_map]at e;exact e
 have m:rightF 3 E'=true:=by
  unfold rightF;rw[rgt_of E' [] ho g (fun _ _=>by simp)];simp;omega
 refine⟨m,(sorted_ord m ?_ ?_).symm⟩
 ·have e:plc E' E'.length=List.range E'.length:=by
   unfold plc;refine List.filter_eq_self.2 fun i p=>?_
   have d:=List.mem_range.1 p;have c:(gH E' i).k∈E'.map He.k:=by rw[gH_get d];exact List.mem_map_of_mem (List.getElem_mem d)
   rw[hk]at c;obtain⟨y,q,r⟩:=List.mem_map.1 c;have j:=(own_ok O P 0 y ((swp_perm _).mem_iff.1 q)).2.2.1;simp only[fk,bne_iff_ne,ne_eq];simp at j;omega
  rw[e,l];exact swp_perm _
 ·have j:(swp (List.range O.length)).map (fk E')=(ownL P 0 O).map He.k:=by
   have s:(List.range O.length).map (fk E')=E'.map He.k:=by
    rw[show fk E'=He.k ∘ gH E' from rfl,←List.map_map,←l,range_map]
   rw[map_swp,s,hk,map_swp,swp_swp]
  have o:=(own_sorted O P 0).imp (S:=fun x y:He=>x.k≤y.k) fun h=>by omega
  rw[←List.pairwise_map (f:=He.k) (R:=(· ≤ ·)),←j,List.pairwise_map]at o;exact o
theorem own_chk{O:List Opn}{P:Pm}(hm:O.length≤90):chkF 3 (swp (ownL P 0 O)) P= -1∧letL (swp (ownL P 0 O)) (ordF (swp (ownL P 0 O))) P=allL P O∧rightF 3 (swp (ownL P 0 O))=true∧wholeF (swp (ownL P 0 O))=true∧(swp (List.range O.length)).map (gH (swp (ownL P 0 O)))=ownL P 0 O:=by
 have b:=fun y=>(swp_perm (ownL P 0 O)).mem_iff (a:=y)
 obtain⟨d,e⟩:=own_right (E':=swp (ownL P 0 O)) hm rfl fun x f=>(own_ok O P 0 x ((b x).1 f)).1
 have c:(swp (List.range O.length)).map (gH (swp (ownL P 0 O)))=ownL P 0 O:=by
  have g:(swp (ownL P 0 O)).length=O.length:=by rw[(swp_perm _).length_eq,own_len]
  rw[map_swp,←g,range_map,swp_swp]
 refine⟨by unfold chkF;rw[if_pos d,e];exact chk_own O P 0 _ c,by rw[e];exact let_own O P 0 _ c,d,?_,c⟩;unfold wholeF;rw[List.all_eq_true];intro y h;have:=(own_ok O P 0 y ((b y).1 h)).2.1;simp[this]
theorem set_map{l:List He}(hk:k<l.length)(h:x.k=(gH l k).k):(l.set k x).map He.k=l.map He.k:=by
 rw[List.map_set];refine List.ext_getElem (by simp) fun i a b=>?_
 rw[List.getElem_set];split
 ·rename_i e;subst e;rw[h,gH_get hk];simp
 ·rfl
theorem own_set{O:List Opn}{P:Pm}(hm:O.length≤90)(hk:k<(swp (ownL P 0 O)).length)(h1:x.k=(gH (swp (ownL P 0 O)) k).k)(h2:okE 3 x=true)(ho:opH x=opH (gH (swp (ownL P 0 O)) k)):
  (x.e≠0→ ¬(x.c=(gH (swp (ownL P 0 O)) k).c∧x.d=(gH (swp (ownL P 0 O)) k).d)→chkF 3 ((swp (ownL P 0 O)).set k x) P=(k:Int))∧(x.e=0→chkF 3 ((swp (ownL P 0 O)).set k x) P= -1):=by
 have b:=fun y=>(swp_perm (ownL P 0 O)).mem_iff (a:=y)
 obtain⟨i,j⟩:=own_right (O:=O) (P:=P) (E':=(swp (ownL P 0 O)).set k x) hm (set_map hk h1) fun y m=>by
  rcases List.mem_or_eq_of_mem_set m with h|h
  ·exact(own_ok O P 0 y ((b y).1 h)).1
  ·rw[h];exact h2
 have l:=(own_chk (P:=P) hm).2.2.2.2;have f:k∈swp (List.range O.length):=(swp_perm _).mem_iff.2 (List.mem_range.2 (by rw[(swp_perm _).length_eq,own_len]at hk;exact hk));exact⟨fun g o=>by unfold chkF;rw[if_pos i,j];exact chk_set hk ho g o O P 0 _ l f,fun g=>by unfold chkF;rw[if_pos i,j];exact chk_zero hk ho g O P 0 _ l⟩
variable {want:List (Int×Int)} {wh:Bool} {n:Int}
theorem que_same(wh:Bool)(n:Int): ∀g s,queL want want wh n g s=true
 |0,_=>rfl
 |g+1,s=>by
  show(shF want want wh n s&&queL want want wh n g (s+1))=true
  rw[que_same wh n g (s+1)]
  unfold shF
  simp
theorem que_bad{out:List (Int×Int)}: ∀(g s0 s:Nat),s0≤s→s<s0+g→shF want out wh n s=false→queL want out wh n g s0=false
 |0,_,_,h1,h2,_=>by omega
 |g+1,s0,s,h1,h2,h=>by
  show(shF want out wh n s0&&queL want out wh n g (s0+1))=false
  by_cases e:s0=s
  ·rw[e,h];rfl
  ·rw[que_bad g (s0+1) s (by omega) (by omega) h];simp
theorem cut_at{l:List (Int×Int)}{k:Nat}(hk:k<l.length):l=l.take k++(nP l k,nC l k) :: l.drop (k+1):=by
 have e:(nP l k,nC l k)=l[k]:=by simp[nP,nC,hk]
 rw[e,←List.drop_eq_getElem_cons hk,List.take_append_drop]
theorem of_app(a b:List (Int×Int))(n s:Int):ofF (a++b) n s=ofF a n s++ofF b n s:=List.filter_append ..
theorem of_hit{p:Int×Int}{b:List (Int×Int)}{s:Int}(h:p.2%n=s):ofF (p :: b) n s=p :: ofF b n s:=List.filter_cons_of_pos (by simp[h])
theorem que_own{E:List He}{P:Pm}{all out:List (Int×Int)}{sN:Nat}(hR:rightF 3 E=true)(hL:letL E (ordF E) P=all)(hw:wholeF E=true):quF 3 E P out sN=((out.all fun o=>decide (0≤o.2))&&queL all out true sN sN 0):=by
 unfold quF;rw[hR,hL,hw];rfl
theorem all_ok{l:List (Int×Int)}(h: ∀v∈l,0≤v.2):(l.all fun o=>decide (0≤o.2))=true:=by
 rw[List.all_eq_true];intro v a;simpa using h v a
theorem que_less{k sN:Nat}(hk:k<want.length)(hi:0≤nC want k)(hs:1≤sN):queL want (want.take k++want.drop (k+1)) true sN sN 0=false:=by
 have d:=Int.emod_nonneg (nC want k) (b:=(sN:Int)) (by omega);have f:=Int.emod_lt_of_pos (nC want k) (b:=(sN:Int)) (by omega);obtain⟨s,a⟩: ∃s:Nat,nC want k%(sN:Int)=s:=⟨(nC want k%(sN:Int)).toNat,by omega⟩;refine que_bad sN 0 s (by omega) (by omega) (sh_wh ?_);have e:=cut_at hk;have c:=congrArg (fun l=>(ofF l (sN:Int) s).length) e;simp only[of_app]at c;rw[of_hit (p:=(nP want k,nC want k)) (n:=(sN:Int)) (s:=s) a,List.length_append,List.length_cons]at c;rw[of_app,List.length_append,c];omega
theorem que_turn{k sN:Nat}(hk:k<want.length)(hi:0≤nC want k)(hs:1≤sN){y:Int}(hy:y≠nP want k):queL want (want.set k (y,nC want k)) wh sN sN 0=false:=by
 have q:=Int.emod_nonneg (nC want k) (b:=(sN:Int)) (by omega);have r:=Int.emod_lt_of_pos (nC want k) (b:=(sN:Int)) (by omega);obtain⟨s,a⟩: ∃s:Nat,nC want k%(sN:Int)=s:=⟨(nC want k%(sN:Int)).toNat,by omega⟩;refine que_bad sN 0 s (by omega) (by omega) ?_;obtain⟨A,g⟩: ∃A,A=want.take k:=⟨_,rfl⟩;obtain⟨B,i⟩: ∃B,B=want.drop (k+1):=⟨_,rfl⟩;have e:=cut_at hk;have o:want.set k (y,nC want k)=want.take k++(y,nC want k) :: want.drop (k+1):=List.set_eq_take_append_cons_drop .. |>.trans (by rw[if_pos hk])
 have j:ofF want sN s=ofF A sN s++(nP want k,nC want k) :: ofF B sN s:=by
  have h:=congrArg (fun l=>ofF l (sN:Int) s) e;simp only[of_app]at h;rw[of_hit (p:=(nP want k,nC want k)) (n:=(sN:Int)) (s:=s) a,←g,←i]at h;exact h
 have m:ofF (want.set k (y,nC want k)) sN s=ofF A sN s++(y,nC want k) :: ofF B sN s:=by rw[o,of_app,of_hit (p:=(y,nC want k)) (n:=(sN:Int)) (s:=s) a,←g,←i]
 have f:ofF (want.set k (y,nC want k)) sN s≠ofF want sN s:=by
  rw[j,m];intro h;have d:=List.append_cancel_left h;injection d with h4
  injection h4 with h5
  exact hy h5
 have c:(ofF (want.set k (y,nC want k)) sN s).length=(ofF want sN s).length:=by rw[j,m];simp
 rw[sh_ok (by omega) (fun _=>by omega),Bool.eq_false_iff];intro h;have d:=(pre_iff (by omega)).2 h;rw[c,List.take_length]at d;exact f d
end Hfp
end Go.Proofs.YtcccdikhfgpamaaGreat
