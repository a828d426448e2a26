/- Texts side by side. -/
import Derived.Test.YtcccdikhfgpamaaGreatUhbs
set_option linter.unusedVariables false
set_option linter.unusedSimpArgs false
set_option maxRecDepth 100000
set_option maxHeartbeats 16000000
namespace Go.Proofs.YtcccdikhfgpamaaGreat
open Kap Go.ChangeShapes Go.WideShapes Go.ChangeAt Go.RowKit Go.Lib Mem Tre Ref3 Law3 Wpl Hpa Hws
namespace Hrr
open Hmp Hti Hri
theorem seenM_mem(y:Int): ∀(E:List He) (s:List Int),y∈seenM E s↔y∈s∨(y≠0∧ ∃k,k<E.length∧fk E k=y)
 |[],s=>by simp[seenM]
 |x :: t,s=>by
  unfold seenM
  rw[seenM_mem y t (mkS x s)]
  have h:(∃k,k<(x :: t).length∧fk (x :: t) k=y)↔(x.k=y∨ ∃k,k<t.length∧fk t k=y):=by
   constructor
   ·rintro⟨k,c,e⟩;cases k with
    |zero=>exact .inl e
    |succ k=>exact .inr ⟨k,by simpa using c,e⟩
   ·rintro(e|⟨k,c,e⟩)
    ·exact⟨0,by simp,e⟩
    ·exact⟨k+1,by simpa using c,e⟩
  rw[h];unfold mkS;split
  ·rename_i h0
   constructor
   ·rintro(h|⟨b,a⟩)
    ·exact .inl h
    ·exact .inr ⟨b,.inr a⟩
   ·rintro(h|⟨b,a|a⟩)
    ·exact .inl h
    ·omega
    ·exact .inr ⟨b,a⟩
  ·rename_i h0
   rw[List.mem_cons];constructor
   ·rintro((h|h)|⟨b,a⟩)
    ·exact .inr ⟨by omega,.inl h.symm⟩
    ·exact .inl h
    ·exact .inr ⟨b,.inr a⟩
   ·rintro(h|⟨b,a|a⟩)
    ·exact .inl (.inr h)
    ·exact .inl (.inl a.symm)
    ·exact .inr ⟨b,a⟩
theorem ldr21{w:World}{b o:Nat}{x:He}(h:H21 w b o x):(Instr.loadAt 68 (.pointer (some ⟨b,o,none⟩))).run Tryz.prog w= .ok (.agg (hA x)) w:=by
 have e:=h.load;simp only[Instr.loadAt,Instr.sureAddr,Sem.run_bind,Sem.run_pure,Result.andThen,loadVar,loadCells,Tryz.isAgg68,Tryz.sizeOf68,if_true,e]
theorem str21(w:World)(x:He):(Instr.storeAt 68 (.pointer (some ⟨w.heap.size,0,none⟩)) (.agg (hA x))).run Tryz.prog (w.alloc (.cells (hA he0) 68))= .ok () (w.alloc (.cells (hA x) 68)):=
 run_storeAt_new w 68 (hA he0) (hA x) (by kernel_rfl) rfl (by simp[Value.oneCell'])
theorem okE_iff(n:Int)(x:He):okE n x=true↔0≤x.w∧x.w<n∧0≤x.b∧(x.k=0∨x.b<x.k)∧(x.e=0∨(x.k≠0∧x.k≤x.e)):=by
 unfold okE timE timB;simp[and_assoc]
theorem rright_any(n:Int)(E:List He)(A:Option Addr)(c:Nat)(w:World)(hl:Hid (Rd w w.heap.size A (hrow E)))(hm:E.length≤1000):Calls Tryz.prog 10 #[.int .i64 n,.slice A E.length c] w (MadeB (rightF n E) w):=by
 have T: ¬(65536<(E.length:Int)):=by omega
 by_cases hn:1≤n∧n≤8
 ·obtain⟨n1,n2⟩:=hn;have v:Hid (rightF n E=rgt n E []):=κ (by unfold rightF;rw[decide_eq_true n1,decide_eq_true n2,decide_eq_true (by omega)];rfl)
  go_enter Tryz.func10,Tryz.ntmps10
  go_wp2_with fail
  clear T
  go_loopg [5] E.length (fun g s5 V=> ∃(i:Nat),i+g=E.length∧s5= ι i∧Hid (rgt n (E.drop i) (seenM (E.take i) [])=rgt n E [])∧Hid (Below w.heap.size w V))
  case atStart=>exact⟨0,by omega,rfl,κ rfl,κ ψ⟩
  case round=>
   obtain⟨i,ad,rfl,I,U⟩:=hrel
   rename World=>G
   by_cases hlt:i<E.length
   ·obtain⟨g8,rfl⟩: ∃g8,gk=g8+1:=⟨gk-1,by omega⟩;have X:((i:Nat):Int)<((E.length:Nat):Int):=by omega
    obtain⟨b,o,rfl,hb,J⟩:=hes_at (Rd.below' hl.o U.o U.o.size) (by omega);have HC:Hid (∀W,Below G.heap.size G W→ ∀k,k<E.length→W.cell? ⟨b,o+k*21+2,none⟩=some (.int .i64 (fk E k))):=κ (fun W L k hk=>(L.cell (p:=⟨b,o+k*21+2,none⟩) hb).trans (J k hk).2.2.1);have f:=J i hlt;rw[rgt_at hlt]at I;have hT:Hid (E.take (i+1)=E.take i++[gH E i]):=κ (take_h hlt);have hM:Hid (mkS (gH E i) (seenM (E.take i) [])=seenM (E.take (i+1)) []):=κ (by rw[hT.o,seenM_snoc])
    have hS:Hid ((seenM (E.take i) []).contains (gH E i).k=true↔(gH E i).k≠0∧ ∃k,k<i∧fk E k=(gH E i).k):=κ (by
     rw[List.contains_iff_mem,seenM_mem]
     have e1:(E.take i).length=i:=by rw[List.length_take];omega
     have e2: ∀k,k<i→fk (E.take i) k=fk E k:=fun k hk=>by unfold fk gH;rw[List.getD_eq_getElem?_getD,List.getD_eq_getElem?_getD,List.getElem?_take,if_pos hk]
     rw[e1]
     constructor
     ·rintro(h|⟨j,k,l,r⟩)
      ·cases h
      ·exact⟨j,k,l,by rw[←e2 k l];exact r⟩
     ·rintro⟨j,k,l,r⟩
      exact .inr ⟨j,k,l,by rw[e2 k l];exact r⟩)
    rw[hM.o]at I;clear J hb hT hM;generalize gH E i=x at f I hS;have ld:=ldr21 f
    go_upto_region 7 with(first|(refine wpList_ld _ _ rfl rfl rfl ld ?_)|(refine wpList_st _ _ _ rfl rfl rfl rfl (str21 _ _) ?_))
    clear ld f;have K:=κ (Blk.fresh G 68 (hA x));have Y:=κ (bst U.o (β G (.cells (hA x) 68)));have C1:Hid (∀W,Below (G.alloc (.cells (hA x) 68)).heap.size (G.alloc (.cells (hA x) 68)) W→ ∀k,k<E.length→W.cell? ⟨b,o+k*21+2,none⟩=some (.int .i64 (fk E k))):=κ (fun W L=>HC.o W (bst (β G _) L));clear U HC;generalize G.alloc (.cells (hA x) 68)=Z at K Y C1 ⊢;generalize G.heap.size=ge at K ⊢;have k0:=χ (K.o.cell 0);have k1:=χ (K.o.cell 1);have k2:=χ (K.o.cell 2);have k3:=χ (K.o.cell 3);have m:=κ (okE_iff n x);generalize x.w=t at *;generalize x.b=F at *;generalize x.k=a at *;generalize x.e=y at *;by_cases hye:okE n x=true
    case neg=>
     have aa:=κ (Bool.eq_false_iff.2 hye)
     have hd:t<0∨(0≤t∧n≤t)∨(0≤t∧t<n∧F<0)∨(0≤t∧t<n∧0≤F∧a≠0∧a≤F)∨(0≤t∧t<n∧0≤F∧a=0∧y≠0)∨(0≤t∧t<n∧0≤F∧a≠0∧F<a∧y≠0∧y<a):=by
      have l: ¬(0≤t∧t<n∧0≤F∧(a=0∨F<a)∧(y=0∨(a≠0∧a≤y))):=fun h=>hye (m.o.2 h)
      clear m aa;omega
     clear hye m;rcases hd with j|⟨j,l⟩|⟨j,l,r⟩|⟨j,l,r,H,O⟩|⟨j,l,r,H,O⟩|⟨j,l,r,H,O,T,h7⟩
     all_goals
      (try have q1:(y != 0)=true:=bne_iff_ne.2 (by assumption))
      (try have q2:(a != 0)=true:=bne_iff_ne.2 (by assumption))
      go_wp2_with fail
      go_ret;exact madeB_mk (v.o.trans (I.o.symm.trans (rgt_no aa.o))) Y.o
    have z:=κ hye
    have hd:(a=0∧y=0)∨(a≠0∧F<a∧y=0)∨(a≠0∧F<a∧y≠0∧a≤y):=by
     have l:=m.o.1 hye;clear m z;omega
    obtain⟨j,l,r,-,-⟩:=m.o.1 hye;clear hye m;rcases hd with⟨H,O⟩|⟨H,O,T⟩|⟨H,O,T,h7⟩
    case inl=>
     go_wp2_with fail
     clear k0 k1 k3 j l r O
     go_loopg [7] i (fun g s7 V=> ∃(k P:Nat),k+g=i∧s7= ι k∧Hid (∀d,d<k→ ¬(a≠0∧fk E d=a))∧V=Z.drewN P)
     case atStart=>exact⟨0,0,by omega,rfl,κ (fun d h=>absurd h (by omega)),rfl⟩
     case round=>
      obtain⟨k,P,ab,rfl,s,rfl⟩:=hrel;by_cases hlk:k<i
      ·obtain⟨Q,rfl⟩: ∃Q,gk=Q+1:=⟨gk-1,by omega⟩;have C:((k:Nat):Int)<((i:Nat):Int):=by omega
       have ac:((k:Nat):Int)<((E.length:Nat):Int):=by omega
       have q:Hid (∀d,d<k+1→ ¬(a≠0∧fk E d=a)):=κ (fun d _ h=>h.1 H)
       go_wp2_with fail
       go_quiet (fail)
       go_wp2_with fail
       go_roundg Q
       case measure=>omega
       case rel=>exact⟨k+1,_,by omega,by go_num,q,rfl⟩
      ·obtain rfl:k=i:=by omega
       have C: ¬((k:Nat):Int)<((k:Nat):Int):=by omega
       have R:Hid (rgt n (E.drop (k+1)) (seenM (E.take (k+1)) [])=rgt n E []):=κ (by
        have J:(seenM (E.take k) []).contains a=false:=Bool.eq_false_iff.2 fun h=>by
         obtain⟨j,d,l,r⟩:=hS.o.1 h
         exact s.o d l ⟨j,r⟩
        rw[←I.o,z.o,J]
        rfl)
       have U2:Hid (Below w.heap.size w (Z.drewN P)):=κ (Below.drewN' Y.o _)
       go_wp2_with fail
       go_roundg g8
       case measure=>omega
       case rel=>exact⟨k+1,by omega,by go_num,R,U2⟩
    all_goals
     have q2:(a != 0)=true:=bne_iff_ne.2 H;have q4:(a==0)=false:=beq_eq_false_iff_ne.2 H
     (try have q1:(y != 0)=true:=bne_iff_ne.2 T)
     go_wp2_with fail
     clear k0 k1 k3 j l r O T
     go_loopg [7] i (fun g s7 V=> ∃(k P:Nat),k+g=i∧s7= ι k∧Hid (∀d,d<k→ ¬(a≠0∧fk E d=a))∧V=Z.drewN P)
     case atStart=>exact⟨0,0,by omega,rfl,κ (fun d h=>absurd h (by omega)),rfl⟩
     case round=>
      obtain⟨k,P,ab,rfl,s,rfl⟩:=hrel;by_cases hlk:k<i
      ·obtain⟨Q,rfl⟩: ∃Q,gk=Q+1:=⟨gk-1,by omega⟩;have C:((k:Nat):Int)<((i:Nat):Int):=by omega
       have ac:((k:Nat):Int)<((E.length:Nat):Int):=by omega
       have ck:=C1.o Z ψ k (by omega);by_cases he:fk E k=a
       ·have hf:Hid (rgt n E []=false):=κ (by rw[←I.o,hS.o.2 ⟨H,k,hlk,he⟩];simp);generalize fk E k=S at ck he;have q3:(S==a)=true:=beq_iff_eq.2 he
        go_wp2_with fail
        go_quiet (fail)
        go_wp2_with fail
        go_ret;exact madeB_mk (v.o.trans hf.o) (Below.drewN' (Below.drewN' Y.o _) _)
       ·have q:Hid (∀d,d<k+1→ ¬(a≠0∧fk E d=a)):=κ (fun d ae h=>by
         by_cases e:d=k
         ·subst e;exact he h.2
         ·exact s.o d (by omega) h)
        generalize fk E k=S at ck he;have q3:(S==a)=false:=beq_eq_false_iff_ne.2 he
        go_wp2_with fail
        go_quiet (fail)
        go_wp2_with fail
        go_roundg Q
        case measure=>omega
        case rel=>exact⟨k+1,_,by omega,by go_num,q,rfl⟩
      ·obtain rfl:k=i:=by omega
       have C: ¬((k:Nat):Int)<((k:Nat):Int):=by omega
       have R:Hid (rgt n (E.drop (k+1)) (seenM (E.take (k+1)) [])=rgt n E []):=κ (by
        have J:(seenM (E.take k) []).contains a=false:=Bool.eq_false_iff.2 fun h=>by
         obtain⟨j,d,l,r⟩:=hS.o.1 h
         exact s.o d l ⟨j,r⟩
        rw[←I.o,z.o,J]
        rfl)
       have U2:Hid (Below w.heap.size w (Z.drewN P)):=κ (Below.drewN' Y.o _)
       go_wp2_with fail
       go_roundg g8
       case measure=>omega
       case rel=>exact⟨k+1,by omega,by go_num,R,U2⟩
   ·have X: ¬((i:Nat):Int)<((E.length:Nat):Int):=by omega
    obtain rfl:i=E.length:=by omega
    go_wp2_with fail
    go_ret;exact madeB_mk (v.o.trans (I.o.symm.trans (by rw[List.drop_length];rfl))) U.o
 ·have v:Hid (rightF n E=false):=κ (by
   unfold rightF
   by_cases j:1≤n
   ·rw[decide_eq_true j,decide_eq_false (by omega)];rfl
   ·rw[decide_eq_false j];rfl)
  go_enter Tryz.func10,Tryz.ntmps10
  go_wp2_with fail
  all_goals
   first
    |(exfalso;omega)
    |(go_ret;exact madeB_mk v.o ψ)
end Hrr
namespace Hod
open Lax Lat
def nI(L:List Nat):List Int:=L.map fun k:Nat=>(k:Int)
theorem nI_len(L:List Nat):(nI L).length=L.length:=by simp[nI]
theorem ins_at{f:Nat→Int}{i:Nat}: ∀{pre suf:List Nat},(∀a∈pre,f a≤f i)→(∀a∈suf,f i<f a)→insO f i (pre++suf)=pre++i :: suf
 |[],[],_,_=>rfl
 |[],b :: t,_,h=>by show insO f i (b :: t)=_;unfold insO;rw[if_pos (h b (List.mem_cons_self ..))];rfl
 |a :: p,suf,h1,h2=>by
  show insO f i (a :: (p++suf))=_
  unfold insO
  rw[if_neg (by have:=h1 a (List.mem_cons_self ..);omega),ins_at (fun x hx=>h1 x (List.mem_cons_of_mem _ hx)) h2]
  rfl
theorem ordN_lt{f:Nat→Int}{n a:Nat}(h:a∈ordN f n):a<n:=by
 have:=(ordN_perm f n).mem_iff.1 h;simp only[List.mem_filter,List.mem_range]at this;exact this.1
theorem nI_at(p s:List Nat)(x:Nat):gI (nI (p++x :: s)) p.length=(x:Int):=by simp[gI,nI]
theorem nI_at1(p s:List Nat)(a x:Nat):gI (nI (p++a :: x :: s)) (p.length+1)=(x:Int):=by
 have:=nI_at (p++[a]) s x;simpa using this
theorem nI_swap(p s:List Nat)(a x:Nat):((nI (p++a :: x :: s)).set p.length (x:Int)).set (p.length+1) (a:Int)=nI (p++x :: a :: s):=by
 simp[nI,List.set_append]
theorem nil_or_snoc(l:List Nat):l=[]∨ ∃p a,l=p++[a]:=by
 rcases List.eq_nil_or_concat l with h|⟨p,a,h⟩
 ·exact .inl h
 ·exact .inr ⟨p,a,by rw[h,List.concat_eq_append]⟩
def MadeOr(L:List Nat)(w:World)(e:Ending)(w':World):Prop:= ∃A c,e= .returned (.slice A L.length c)∧Ris w' w'.heap.size A (nI L)∧Below w.heap.size w w'∧ ∀a,A=some a→w.heap.size≤a.block
theorem own_new{w:World}{base s n c:Nat}{e:TypeId}{A:Option Addr}{xs:List Value}(h:w.ownsRow base e s (.slice A n c) n xs): ∀a,A=some a→base≤a.block:=by
 intro a d;rcases h.2 with⟨b,_⟩|⟨g,f,i,b,j,_⟩
 ·injection b with b;rw[d]at b;cases b
 ·injection b with b;rw[d]at b;injection b with b;rw[b];exact j
theorem order_any(E:List He)(A:Option Addr)(c:Nat)(w:World)(hl:Hid (Rd w w.heap.size A (hrow E)))(hm:E.length≤1000):Calls Tryz.prog 31 #[.slice A E.length c] w (MadeOr (ordF E) w):=by
 obtain⟨i0,hi,av,aw,ax⟩:=info_parts int_info
 go_enter Tryz.func31,Tryz.ntmps31
 go_wp2_with fail
 go_loopg [3,4] E.length (fun g s3 s4 w'=> ∃(i j:Nat) (A':Option Addr) (c':Nat),i+g=E.length∧s4= ι i∧s3= .slice A' j c'∧Hid (j=(ordN (fk E) i).length∧j≤i)∧Hid (World.ownsRow w' w.heap.size 3 1 (.slice A' j c') j (ints (nI (ordN (fk E) i))))∧Hid (Below w.heap.size w w'))
 case atStart=>exact⟨0,0,none,0,by omega,rfl,rfl,κ ⟨rfl,τ⟩,κ (World.ownsRow_nil _ _ _ _),κ ψ⟩
 case round=>
  obtain⟨i,j,A',c',aL,rfl,rfl,m,O,U⟩:=hrel
  rename World=>wr
  by_cases hlt:i<E.length
  ·obtain⟨g,rfl⟩: ∃g,gk=g+1:=⟨gk-1,by omega⟩;have ay:((i:Nat):Int)<((E.length:Nat):Int):=by omega
   obtain⟨b,o,rfl,hb,hc⟩:=hes_at hl.o (by omega);have HC:Hid (∀W,Below w.heap.size w W→ ∀k,k<E.length→W.cell? ⟨b,o+k*21+2,none⟩=some (.int .i64 (fk E k))):=κ (fun W az k hk=>(az.cell (p:=⟨b,o+k*21+2,none⟩) hb).trans (hc k hk).2.2.1);have ci:=HC.o wr U.o i hlt;have J:Hid (i<1000):=κ (by omega);have aA:Hid (i<E.length):=κ hlt;clear hc hb;by_cases h0:fk E i=0
   ·have hS:Hid (ordN (fk E) (i+1)=ordN (fk E) i):=κ (by show(if fk E i=0 then _ else _)=_;rw[if_pos h0]);rw[h0]at ci;clear h0
    go_wp2_with fail
    go_roundg g
    case measure=>omega
    case rel=>exact⟨i+1,j,A',c',by omega,by go_num,rfl,κ ⟨by rw[hS.o];exact m.o.1,by have:=m.o.2;omega⟩,κ (by rw[hS.o];exact O.o),U⟩
   ·have hS:Hid (ordN (fk E) (i+1)=insO (fk E) i (ordN (fk E) i)):=κ (by show(if fk E i=0 then _ else _)=_;rw[if_neg h0]);have HL:Hid (∀a∈ordN (fk E) i,a<E.length):=κ (fun a ha=>by have:=ordN_lt ha;omega);have HP:Hid ((ordN (fk E) i).Pairwise (fun a b=>fk E a≤fk E b)):=κ (ordN_sorted _ _);generalize ordN (fk E) i=L at m O hS HL HP;have ag:(fk E i==0)=false:=beq_eq_false_iff_ne.2 h0;have H0:=κ h0;have UB:=U.o;obtain⟨n1,ah⟩: ∃n,n=j+1:=⟨_,rfl⟩;have aM:=κ ah;clear ah;generalize ai:fk E i=fi at ci ag h0;have ad:=κ ai;clear ai;have aj:wrap64 (j:Int)=(j:Int):=by have:=m.o.2;have:=J.o;unfold wrap64;omega
    go_upto_region 8 with(at_builtin;refine wpList_app1 O UB rfl _ _ _ rfl i0 (.int .i64 0) 8 Tryz.underlying23 hi av aw ax rfl (by decide) rfl rfl rfl [.int .i64 (i:Int)] rfl rfl (by simp[Value.oneCell']) (by have:=m.o.2;have:=J.o;unfold maxLen;omega) (by have:=m.o.2;have:=J.o;omega) τ UB.size UB.size ?_;intro A1 c1 w1 K P aB)
    have O1:Hid (World.ownsRow w1 w.heap.size 3 1 (.slice A1 (j+1) c1) (j+1) (ints (nI (L++[i])))):=κ (by simpa[nI,ints] using K.o);have U1:=κ P;have Q:Hid (j=L.length):=κ m.o.1;clear K P aB O ci ag h0 UB U
    go_loopg [5] j (fun g s5 w'=> ∃(r d:List Nat),g=r.length∧s5= ι ((r.length:Nat):Int)∧Hid (L=r++d∧ ∀a∈d,fi<fk E a)∧Hid (World.ownsRow w' w.heap.size 3 1 (.slice A1 (j+1) c1) (j+1) (ints (nI (r++i :: d))))∧Hid (Below w.heap.size w w'))
    case atStart=>exact⟨L,[],Q.o,by rw[aj,Q.o],κ ⟨by simp,fun a h=>by cases h⟩,O1,U1⟩
    case round=>
     clear O1 U1 aj;obtain⟨r,d,X,rfl,C,O,U⟩:=hrel
     rename World=>v
     have R:j=r.length+d.length:=by rw[Q.o,C.o.1,List.length_append]
     obtain⟨l,rfl,ak,-,-,s,F⟩:=Own.own_at O.o (by rw[nI_len];simp;omega);rw[nI_len]at s F;have Y:(r++i :: d).length=j+1:=by simp;omega
     rw[Y]at s F;have y:=κ s;have Z:=κ F;clear s F;have S:(∀a∈r,fk E a≤fi)→Hid (ordN (fk E) (i+1)=r++i :: d):=fun h=>κ (by rw[hS.o,C.o.1];exact ins_at (f:=fk E) (by rw[ad.o];exact h) (by rw[ad.o];exact C.o.2))
     rcases nil_or_snoc r with rfl|⟨p,a,rfl⟩
     ·have G:=S (fun a h=>by cases h);have aC: ¬((0:Int)<0):=by omega
      have aD:=κ Y;clear S y Z R Y X
      go_wp2_with fail
      go_quiet (fail)
      rename Nat=>H
      have U2:Hid (Below w.heap.size w (v.drewN H)):=κ (Below.drewN' U.o _);have O2:Hid (World.ownsRow (v.drewN H) w.heap.size 3 1 (.slice (some (α l 0)) (j+1) c1) (j+1) (ints (nI (i :: d)))):=O;clear O U
      go_wp2_with fail
      go_roundg g
      case measure=>omega
      case rel=>exact⟨i+1,j+1,some ⟨l,0,none⟩,c1,by omega,by go_num,rfl,κ ⟨by rw[G.o];exact aD.o.symm,by have:=m.o.2;omega⟩,κ (by rw[G.o];exact O2.o),U2⟩
     ·obtain⟨g9,rfl⟩: ∃g9,gk=g9+1:=⟨p.length,by rw[X];simp⟩;have aE:Hid (g9=p.length):=κ (by simpa using X);clear X;obtain⟨q,z⟩: ∃q,q=p.length:=⟨_,rfl⟩;obtain⟨k,hk⟩: ∃k,k=(p++[a]).length:=⟨_,rfl⟩;have aa:k=q+1:=by rw[hk,z];simp
      have ae:(p++[a])++i :: d=p++a :: i :: d:=by simp
      rw[ae]at O y Z;have V:j=q+1+d.length:=by rw[R,List.length_append,z];rfl
      have al:v.cell? (α l q)=some (ι (a:Int)):=by
       have:=(y.o q (by omega)).1;rw[z,nI_at]at this;rw[z];exact this
      have am:v.cell? (α l k)=some (ι (i:Int)):=by
       have:=(y.o k (by omega)).1;rw[aa,z,nI_at1]at this;rw[aa,z];exact this
      have hy:Hid (v.frozen? (α l q)=false∧v.frozen? (α l k)=false):=κ ⟨(y.o q (by omega)).2,(y.o k (by omega)).2⟩;have an:a<E.length:=HL.o a (by rw[C.o.1];simp);have ao:=HC.o v U.o a an;have ap:=HC.o v U.o i aA.o;rw[ad.o]at ap;have aC:(0:Int)<((k:Nat):Int):=by omega
      have aN:0<k:=by omega
      have b1:((q:Nat):Int)<((j+1:Nat):Int):=by omega
      have b2:((k:Nat):Int)<((j+1:Nat):Int):=by omega
      have aO:q<j+1:=by omega
      have aP:k<j+1:=by omega
      have aQ:((q:Nat):Int)<(j:Int)+1:=by omega
      have aR:((k:Nat):Int)<(j:Int)+1:=by omega
      have b3:((a:Nat):Int)<((E.length:Nat):Int):=by omega
      have aS:IntKind.i64.wrap (((k:Nat):Int)-1)=((q:Nat):Int):=by rw[IntKind.wrap_i64];have:=J.o;have:=m.o.2;omega
      have aT:wrap64 (((k:Nat):Int)-1)=((q:Nat):Int):=by unfold wrap64;have:=J.o;have:=m.o.2;omega
      have HK:=κ aa;have I:=κ z;have aF:=κ ae;rw[←hk];have aU:=κ hk;have aG:=κ V;clear aa ae hk R Y an V z;generalize aq:fk E a=fa at ao;have af:=κ aq;clear aq;by_cases hgt:fi<fa
      ·clear S y Z
       go_wp2_with fail
       go_quiet (fail)
       rename Nat=>H
       have U2:Hid (Below w.heap.size w (v.drewN H)):=κ (Below.drewN' U.o _);have O2:Hid (World.ownsRow (v.drewN H) w.heap.size 3 1 (.slice (some (α l 0)) (j+1) c1) (j+1) (ints (nI (p++a :: i :: d)))):=O;have d1:(v.drewN H).cell? (α l q)=some (ι (a:Int)):=al;have d2:(v.drewN H).cell? (α l k)=some (ι (i:Int)):=am;have ab:Hid ((v.drewN H).frozen? (α l q)=false∧(v.drewN H).frozen? (α l k)=false):=hy;clear O U al am ao ap hy;generalize v.drewN H=wy at U2 O2 d1 d2 ab ⊢
       go_upto_region 10 with fail
       refine wp_region_noPanic ?_;let ar:World→Prop:=fun w'=>w'.cell? (α l q)=some (ι (a:Int))∧w'.cell? (α l k)=some (ι (i:Int))
       refine wp_region_L (T:=ar) (st:=[15,17]) (by kernel_rfl) ?_;have U3:Hid (Below w.heap.size w wy.drew):=κ U2.o.drew;have O3:=own_drew O2;have y3:wy.drew.frozen? (α l q)=false:=ab.o.1;have y4:Hid (wy.drew.frozen? (α l k)=false):=κ ab.o.2;have t:Hid (ar (wy.drew)):=κ ⟨d1,d2⟩;clear d1 d2 ab U2 O2;generalize wy.drew=wD at U3 O3 y3 y4 t ⊢;have d1:=t.o.1;refine jA 0 t.o ?_;refine jA 1 t.o ?_;refine jA 2 t.o ?_;refine jA 3 t.o ?_;refine jA 4 t.o ?_;refine jA 5 t.o ?_;refine jA 6 t.o ?_;refine jA 7 t.o ?_;refine jB 8 t.o ?_;refine jA 9 t.o ?_;refine jA 10 t.o ?_;refine jA 11 t.o ?_;refine jA 12 t.o ?_;refine jB 13 t.o ?_;refine jA 14 t.o ?_;refine jV 15 fun K' hK=>?_
       go_simp;refine hK.out _ _ ?_;clear hK K';refine jP ?_;have e2:(wD.setCell ⟨l,q,none⟩ (.int .i64 (i:Int))).cell? ⟨l,k,none⟩=some (.int .i64 (i:Int)):=ω _ _ t.o.2 (by intro e;injection e with e1 e2;have:=HK.o;omega);have f2:(wD.setCell ⟨l,q,none⟩ (.int .i64 (i:Int))).frozen? ⟨l,k,none⟩=false:=φ _ _ y4.o;refine jZ 16 ?_;refine jV 17 fun K' hK=>?_
       go_simp;refine hK.out _ _ ?_;clear hK K';refine jP ?_;refine Δ ?_;have U4:Hid (Below w.heap.size w ((wD.setCell ⟨l,q,none⟩ (.int .i64 (i:Int))).setCell ⟨l,k,none⟩ (.int .i64 (a:Int)))):=κ ((U3.o.setCell (p:=⟨l,q,none⟩) ak _).setCell (p:=⟨l,k,none⟩) ak _)
       have O4:Hid (World.ownsRow ((wD.setCell (α l q) (ι (i:Int))).setCell (α l k) (ι (a:Int))) w.heap.size 3 1 (.slice (some (α l 0)) (j+1) c1) (j+1) (ints (nI (p++i :: a :: d)))):=κ (by
        have ac:(nI (p++a :: i :: d)).length=p.length+(d.length+1+1):=by rw[nI_len];simp
        obtain⟨g2,h2,_,_,_,_,hs⟩:=Own.own_at O3.o (by rw[ac]<;>omega)
        cases h2
        have o5:=hs q (i:Int) (by rw[ac,I.o]<;>omega)
        obtain⟨g3,h3,_,_,_,_,aH⟩:=Own.own_at o5 (by rw[List.length_set,ac]<;>omega)
        cases h3
        have o6:=aH k (a:Int) (by rw[List.length_set,ac,HK.o,I.o]<;>omega)
        rw[HK.o,I.o]at o6
        rw[nI_swap]at o6
        rw[HK.o,I.o]
        exact o6)
       have aI:Hid (L=p++a :: d∧ ∀x∈a :: d,fi<fk E x):=κ (by
        refine⟨by rw[C.o.1];simp,fun x hx=>?_⟩
        rcases List.mem_cons.1 hx with e|h
        ·rw[e,af.o];exact hgt
        ·exact C.o.2 x h)
       clear U3 O3 y3 y4 t d1 e2 f2;generalize (wD.setCell ⟨l,q,none⟩ (.int .i64 (i:Int))).setCell ⟨l,k,none⟩ (.int .i64 (a:Int))=w9 at U4 O4 ⊢
       go_wp2_with fail
       go_roundg g9
       case measure=>omega
       case rel=>exact⟨p,a :: d,aE.o,(by rw[←I.o]),aI,O4,U4⟩
      ·have au: ∀x∈p++[a],fk E x≤fi:=by
        intro x hx;have hp:=HP.o;rw[C.o.1]at hp;have aJ:=(List.pairwise_append.1 (List.pairwise_append.1 hp).1).2.2;rcases List.mem_append.1 hx with h|h
        ·have:=aJ x h a (List.mem_singleton.2 rfl);rw[af.o]at this;omega
        ·rw[List.mem_singleton.1 h,af.o];omega
       have G:=S au;rw[aF.o]at G;clear S au y Z
       go_wp2_with fail
       go_quiet (fail)
       rename Nat=>H
       have U2:Hid (Below w.heap.size w (v.drewN H)):=κ (Below.drewN' U.o _);have O2:Hid (World.ownsRow (v.drewN H) w.heap.size 3 1 (.slice (some (α l 0)) (j+1) c1) (j+1) (ints (nI (p++a :: i :: d)))):=O;clear O U
       go_wp2_with fail
       go_roundg g
       case measure=>omega
       case rel=>exact⟨i+1,j+1,some ⟨l,0,none⟩,c1,by omega,by go_num,rfl,κ ⟨by rw[G.o];simp<;>(have:=aG.o;have:=I.o;omega),by have:=m.o.2;omega⟩,κ (by rw[G.o];exact O2.o),U2⟩
  ·have ay: ¬((i:Nat):Int)<((E.length:Nat):Int):=by omega
   obtain rfl:i=E.length:=by omega
   have aK:=m.o.1;subst aK
   go_wp2_with fail
   go_ret;exact⟨A',c',rfl,Rd.of_own O.o,U.o,own_new O.o⟩
end Hod
end Go.Proofs.YtcccdikhfgpamaaGreat
