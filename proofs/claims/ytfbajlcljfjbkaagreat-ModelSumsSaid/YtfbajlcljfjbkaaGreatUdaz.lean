/- Texts side by side. -/
import Derived.Test.YtfbajlcljfjbkaaGreatUdac
set_option linter.unusedVariables false
set_option linter.unusedSimpArgs false
set_option maxRecDepth 100000
set_option maxHeartbeats 16000000
namespace Go.Proofs.YtfbajlcljfjbkaaGreat
open Kap Go.RowKit Mem Tre Ref3 Law3 Fix3 Cfg Crd CrdB CrdC Cpl Res Bkp Bks Bkf Bkg Bkq Bkw Wpl Mdo Mdk Mdj Mdl Mdy Mdd Mdq
namespace Sme
open Mds (Pm)
variable {l m:List (Int×Int)}
theorem sum_nn(l:List Int)(h: ∀x∈l,0≤x):0≤l.sum:=by
 induction l with
 |nil=>simp
 |cons a l ih=>
  rw[List.sum_cons];have h1:=h a (by simp);have h2:=ih (fun x hx=>h x (by simp[hx]));omega
theorem sum_ge(l:List Int)(h: ∀x∈l,0≤x)(x:Int)(hx:x∈l):x≤l.sum:=by
 induction l with
 |nil=>cases hx
 |cons a l ih=>
  rw[List.sum_cons];have h1:=h a (by simp);have h2:=sum_nn l (fun y hy=>h y (by simp[hy]));rcases List.mem_cons.1 hx with rfl|hx
  ·omega
  ·have:=ih (fun y hy=>h y (by simp[hy])) hx;omega
def ctr(nd:List (Int×Int))(ac:List Int)(e:En)(k:Nat):Int:=if (k:Int)∈pathF nd 3 (gI ac e.o.a.toNat) then e.o.p*e.lf else 0
def sumE(nd:List (Int×Int))(ac:List Int)(l:List En)(k:Nat):Int:=(l.map (fun e=>ctr nd ac e k)).sum
def sumB(nd:List (Int×Int))(ac:List Int)(bs:List Bk)(k:Nat):Int:=(bs.map (fun b=>sumE nd ac b.op k)).sum
section
variable {nd:List (Int×Int)} {ac:List Int} {k:Nat}
theorem sumE_app(l r:List En):sumE nd ac (l++r) k=sumE nd ac l k+sumE nd ac r k:=by simp[sumE]
theorem sumE_cons(e:En)(l:List En):sumE nd ac (e :: l) k=ctr nd ac e k+sumE nd ac l k:=by simp[sumE]
theorem sumE_set(l:List En)(i:Nat)(e:En)(h:i<l.length):sumE nd ac (l.set i e) k=sumE nd ac l k-ctr nd ac (gE l i) k+ctr nd ac e k:=by
 induction l generalizing i with
 |nil=>simp at h
 |cons a l ih=>
  cases i with
  |zero=>
   rw[List.set_cons_zero,sumE_cons,sumE_cons,show gE (a :: l) 0=a from rfl];omega
  |succ i=>
   rw[List.set_cons_succ,sumE_cons,sumE_cons,ih i (by simpa using h),show gE (a :: l) (i+1)=gE l i from by simp[gE]];omega
theorem sumE_del(l:List En)(i:Nat)(h:i<l.length):sumE nd ac (delE l i) k=sumE nd ac l k-ctr nd ac (gE l i) k:=by
 induction l generalizing i with
 |nil=>simp at h
 |cons a l ih=>
  cases i with
  |zero=>
   rw[sumE_cons,show gE (a :: l) 0=a from rfl,show delE (a :: l) 0=l from by simp[delE]];omega
  |succ i=>
   rw[show delE (a :: l) (i+1)=a :: delE l i from by simp[delE],sumE_cons,sumE_cons,ih i (by simpa using h),show gE (a :: l) (i+1)=gE l i from by simp[gE]];omega
theorem sumE_nn(l:List En)(al:Nat)(h: ∀e∈l,EnK al e):0≤sumE nd ac l k∧ ∀e∈l,ctr nd ac e k≤sumE nd ac l k:=by
 have h0: ∀x∈l.map (fun e=>ctr nd ac e k),0≤x:=by
  intro x hx;obtain⟨e,he,rfl⟩:=List.mem_map.1 hx;show 0≤ctr nd ac e k;unfold ctr;split
  ·have:=h e he;exact Int.mul_nonneg (by have:=this.2.2.1;omega) (by have:=this.2.2.2.1;omega)
  ·exact Int.le_refl _
 exact⟨sum_nn _ h0,fun e he=>sum_ge _ h0 _ (List.mem_map.2 ⟨e,he,rfl⟩)⟩
theorem sumB_set(bs:List Bk)(s:Nat)(b:Bk)(h:s<bs.length):sumB nd ac (bs.set s b) k=sumB nd ac bs k-sumE nd ac (gB bs s).op k+sumE nd ac b.op k:=by
 induction bs generalizing s with
 |nil=>simp at h
 |cons a l ih=>
  have e: ∀x l',sumB nd ac (x :: l') k=sumE nd ac x.op k+sumB nd ac l' k:=fun x l'=>by simp[sumB]
  cases s with
  |zero=>
   rw[List.set_cons_zero,e,e,show gB (a :: l) 0=a from rfl];omega
  |succ i=>
   rw[List.set_cons_succ,e,e,ih i (by simpa using h),show gB (a :: l) (i+1)=gB l i from by simp[gB]];omega
theorem sumB_ge(bs:List Bk)(al:Nat)(h: ∀b∈bs,∀e∈b.op,EnK al e):0≤sumB nd ac bs k∧ ∀b∈bs,∀e∈b.op,ctr nd ac e k≤sumB nd ac bs k:=by
 have h0: ∀x∈bs.map (fun b=>sumE nd ac b.op k),0≤x:=by
  intro x hx;obtain⟨b,hb,rfl⟩:=List.mem_map.1 hx;exact(sumE_nn _ al (h b hb)).1
 exact⟨sum_nn _ h0,fun b hb e he=>Int.le_trans ((sumE_nn b.op al (h b hb)).2 e he) (sum_ge _ h0 _ (List.mem_map.2 ⟨b,hb,rfl⟩))⟩
end
def Par(l m:List (Int×Int)):Prop:=l.length=m.length∧ ∀i,nP l i=nP m i
theorem path_par(h:Par l m): ∀(g:Nat) (n:Int),pathF l g n=pathF m g n
 |0,_=>rfl
 |g+1,n=>by rw[pathF,pathF,h.1,h.2,path_par h g]
theorem par_lim(h:Par l m)(n x:Int):Par (limL l n x) m:=by
 unfold limL;split
 ·refine⟨by rw[List.length_set];exact h.1,fun i=>?_⟩;rw[←h.2 i];unfold nP;by_cases e:n.toNat=i
  ·subst e;by_cases hl:n.toNat<l.length
   ·simp[hl]
   ·rw[List.set_eq_of_length_le (by omega)]
  ·simp[List.getD,List.getElem?_set,e]
 ·exact h
structure Sm(p:Pm):Prop where
 par:Par p.cl p.nd
 acc: ∀a,a<p.ac.length→inR p.nd.length (gI p.ac a)=true
 eq: ∀k,k<p.cu.length→gI p.cu k=sumB p.nd p.ac p.bs k
section
variable {m:Nat} {p:Pm}
theorem Sm_same(h:Sm p)(s:Nat)(b:Bk)(hb: ∀k,sumE p.nd p.ac b.op k=sumE p.nd p.ac (gB p.bs s).op k):Sm {p with bs:=p.bs.set s b}:=by
 refine⟨h.par,h.acc,fun k hk=>?_⟩;show gI p.cu k=sumB p.nd p.ac (p.bs.set s b) k;rw[h.eq k hk];by_cases hs:s<p.bs.length
 ·rw[sumB_set _ _ _ hs,hb];omega
 ·rw[List.set_eq_of_length_le (by omega)]
theorem Sm_rel(h:Sm p)(v:Vp m p)(s:Nat)(hs:s<p.bs.length)(b:Bk)(i:Nat)(hi:i<(gB p.bs s).op.length)(x:Int)(hx0:0≤x)(hx:x≤(gE (gB p.bs s).op i).o.p*(gE (gB p.bs s).op i).lf)
  (hb: ∀k,sumE p.nd p.ac b.op k=sumE p.nd p.ac (gB p.bs s).op k-(if (k:Int)∈pathF p.nd 3 (gI p.ac (gE (gB p.bs s).op i).o.a.toNat) then x else 0)):
  Sm (relP {p with bs:=p.bs.set s b} (gE (gB p.bs s).op i).o.a x):=by
 have hem:gE (gB p.bs s).op i∈(gB p.bs s).op:=gE_mem hi;have hen:=(v.bk _ (Mdq.gB_mem hs)).2 _ hem;generalize gE (gB p.bs s).op i=e at hem hen hx hb;obtain⟨a1,a2,a3,a4,a5⟩:=hen;have hpe:pathF p.cl 3 (gI p.ac e.o.a.toNat)=pathF p.nd 3 (gI p.ac e.o.a.toNat):=path_par h.par 3 _;have hlen:p.cu.length=p.cl.length:=v.cr.len;have hin:inR p.cl.length (gI p.ac e.o.a.toNat)=true:=by rw[h.par.1];exact h.acc _ (by omega)
 have hap:=apart_path v.cr.okt rfl (gI p.ac e.o.a.toNat)
 have hrel:relF p.cl p.cu (gI p.ac e.o.a.toNat) x=true:=by
  unfold relF;rw[Bool.and_eq_true,Bool.and_eq_true];refine⟨⟨?_,by simpa using hx0⟩,?_⟩
  ·rw[pathF_in hin];simp
  ·rw[List.all_eq_true];intro n hn;obtain⟨j,hj,rfl⟩:=List.mem_iff_getElem.1 hn;have h1:=hap.1 j hj;have e0: ∀(L:List Int) (hj:j<L.length),gI L j=L[j]:=fun L hj=>by simp[gI,hj]
   have e1:=e0 _ hj;rw[e1]at h1;have hk:((pathF p.cl 3 (gI p.ac e.o.a.toNat))[j]).toNat<p.cu.length:=by omega
   have h2:=(sumB_ge (nd:=p.nd) (ac:=p.ac) (k:=((pathF p.cl 3 (gI p.ac e.o.a.toNat))[j]).toNat) p.bs p.ac.length (fun b hb=>(v.bk b hb).2)).2 _ (Mdq.gB_mem hs) e hem;rw[←h.eq _ hk]at h2
   have h3:ctr p.nd p.ac e ((pathF p.cl 3 (gI p.ac e.o.a.toNat))[j]).toNat=e.o.p*e.lf:=by
    unfold ctr;rw[if_pos];rw[Int.toNat_of_nonneg h1.1,←hpe];exact List.getElem_mem hj
   rw[h3]at h2;exact decide_eq_true (by omega)
 refine⟨h.par,h.acc,fun k hk=>?_⟩
 have hk':k<p.cu.length:=by
  have h1:=(uok_rel (l:=p.cl) (u:=p.cu) v.cr.uok (gI p.ac e.o.a.toNat) x).2;have h2:k<(relU p.cl p.cu (gI p.ac e.o.a.toNat) x).length:=hk;omega
 show gI (relU p.cl p.cu (gI p.ac e.o.a.toNat) x) k=sumB p.nd p.ac (p.bs.set s b) k;unfold relU;rw[if_pos hrel,gI_addF hk',hpe,sumB_set _ _ _ hs,hb k,h.eq k hk'];split<;>omega
theorem Sm_ord(h:Sm p)(v:Vp m p)(o:Od):Sm (ordF p o).1:=by
 unfold ordF;split
 ·exact h
 ·split
  ·exact h
  ·rename_i h1
   split
   ·exact h
   ·split
    ·exact h
    ·rename_i h2
     obtain⟨g1,g2,g3,g4,g5,g6,g7⟩:=lok_ok2 (ac:=p.ac) (sy:=p.sy) (a:=o.a) (s:=o.s) (p:=o.p) (q:=o.q) (n:=o.n) (t:=o.t) h1;have hnb:=v.nb;have hsh:=v.sh;have hin:inR p.ac.length o.a=true:=by simp[inR];omega
     have hs:shaP p o<p.bs.length:=by
      unfold shaP shaF;rw[if_neg (by rw[hin];simp;omega)];have a1:=Int.emod_nonneg o.a (show p.sh≠0 by omega);have a2:=Int.emod_lt_of_pos o.a (show 0<p.sh by omega);omega
     have hr:(resF p.cl p.cu (gI p.ac o.a.toNat) (worF p o).2).1=0:=by omega
     have hpe:pathF p.cl 3 (gI p.ac o.a.toNat)=pathF p.nd 3 (gI p.ac o.a.toNat):=path_par h.par 3 _;refine⟨h.par,h.acc,fun k hk=>?_⟩
     have hk':k<p.cu.length:=by
      have h4:=(uok_res (l:=p.cl) (u:=p.cu) v.cr.okt v.cr.len v.cr.uok (gI p.ac o.a.toNat) (worF p o).2).2;have h5:k<(resU p.cl p.cu (gI p.ac o.a.toNat) (worF p o).2).length:=hk;omega
     show gI (resU p.cl p.cu (gI p.ac o.a.toNat) (worF p o).2) k=sumB p.nd p.ac (p.bs.set (shaP p o) (Bks.addF p.sh p.wi (gB p.bs (shaP p o)) o p.ep)) k;unfold resU;rw[if_pos hr,gI_addF hk',hpe,sumB_set _ _ _ hs,h.eq k hk']
     have e1:sumE p.nd p.ac (Bks.addF p.sh p.wi (gB p.bs (shaP p o)) o p.ep).op k=sumE p.nd p.ac (gB p.bs (shaP p o)).op k+(if (k:Int)∈pathF p.nd 3 (gI p.ac o.a.toNat) then o.p*o.q else 0):=by
      show sumE p.nd p.ac ((gB p.bs (shaP p o)).op++[_]) k=_;rw[sumE_app,sumE_cons];simp only[sumE,List.map_nil,List.sum_nil,ctr,Int.add_zero]
     rw[e1,show(worF p o).2=o.p*o.q from g7];split<;>omega
theorem Sm_do(h:Sm p)(v:Vp m p)(o:Opn):Sm (doF p o).1:=by
 have ctrS: ∀(e:En) (x:Int) (k:Nat),ctr p.nd p.ac (setS e x) k=ctr p.nd p.ac e k:=fun e x k=>rfl
 unfold doF;split
 ·unfold swpF;split
  ·refine Sm_same h _ _ (fun k=>?_);show sumE p.nd p.ac ((gB p.bs o.sx.toNat).op.map (swE o.ex)) k=_;unfold sumE;rw[List.map_map]
   congr 1
   refine List.map_congr_left (fun e _=>?_);show ctr p.nd p.ac (swE o.ex e) k=_;unfold swE;split<;>rfl
  ·exact h
 ·split
  ·exact h
  ·rename_i hr
   have hr':rightM o.m=true:=by simpa using hr
   obtain⟨_,_,_,hfit⟩:=Wpl.rightM_of hr';have hi0:0≤o.m.i:=hfit.2.2.2.1.1;have hs:=shN_lt v hi0;split
   ·exact Sm_ord h v _
   ·split
    ·unfold canF;split
     ·exact h
     ·refine Sm_same h _ _ (fun k=>?_);unfold cancelF;split
      ·rename_i hp
       split
       ·rfl
       ·show sumE p.nd p.ac ((gB p.bs (shN p o.m.i)).op.set _ (setS _ 2)) k=_;rw[sumE_set _ _ _ hp,ctrS];omega
      ·rfl
    ·split
     ·unfold filF;split
      ·exact h
      ·rename_i hf
       unfold fillF at hf ⊢;split at hf
       ·simp at hf
       ·rename_i hy
        split at hf
        ·rename_i hp
         have hen:=(v.bk _ (Mdq.gB_mem hs)).2 _ (gE_mem hp);obtain⟨b1,b2,b3,b4,b5⟩:=hen;rw[if_neg hy,if_pos hp];have hfe:findE (gB p.bs (shN p o.m.i)).op o.m.i=gE (gB p.bs (shN p o.m.i)).op (posE (gB p.bs (shN p o.m.i)).op o.m.i):=by unfold findE;rw[if_pos hp]
         rw[hfe];split at hf
         ·simp at hf
         ·rename_i hl
          rw[if_neg hl];have hx0:0≤(gE (gB p.bs (shN p o.m.i)).op (posE (gB p.bs (shN p o.m.i)).op o.m.i)).o.p*o.m.y:=Int.mul_nonneg (by omega) (by omega);have hx1:=Int.mul_le_mul_of_nonneg_left (show o.m.y≤(gE (gB p.bs (shN p o.m.i)).op (posE (gB p.bs (shN p o.m.i)).op o.m.i)).lf by omega) (show 0≤(gE (gB p.bs (shN p o.m.i)).op (posE (gB p.bs (shN p o.m.i)).op o.m.i)).o.p by omega);by_cases h0:(gE (gB p.bs (shN p o.m.i)).op (posE (gB p.bs (shN p o.m.i)).op o.m.i)).lf-o.m.y=0
          ·rw[if_pos h0];refine Sm_rel h v _ hs _ _ hp _ hx0 hx1 (fun k=>?_);show sumE p.nd p.ac (delE _ _) k=_;rw[sumE_del _ _ hp];have e1:(gE (gB p.bs (shN p o.m.i)).op (posE (gB p.bs (shN p o.m.i)).op o.m.i)).lf=o.m.y:=by omega
           simp only[ctr,e1]
          ·rw[if_neg h0];refine Sm_rel h v _ hs _ _ hp _ hx0 hx1 (fun k=>?_);show sumE p.nd p.ac ((gB p.bs (shN p o.m.i)).op.set _ (setL _ _)) k=_;rw[sumE_set _ _ _ hp];generalize gE (gB p.bs (shN p o.m.i)).op (posE (gB p.bs (shN p o.m.i)).op o.m.i)=e;by_cases hm:(k:Int)∈pathF p.nd 3 (gI p.ac e.o.a.toNat)
           ·have a1:ctr p.nd p.ac e k=e.o.p*e.lf:=if_pos hm;have a2:ctr p.nd p.ac (setL e (e.lf-o.m.y)) k=e.o.p*(e.lf-o.m.y):=if_pos hm;rw[a1,a2,if_pos hm,Int.mul_sub];omega
           ·have a1:ctr p.nd p.ac e k=0:=if_neg hm;have a2:ctr p.nd p.ac (setL e (e.lf-o.m.y)) k=0:=if_neg hm;rw[a1,a2,if_neg hm];omega
        ·simp at hf
     ·split
      ·unfold akF;split
       ·exact h
       ·rename_i hf
        unfold ackF at hf ⊢;split at hf
        ·rename_i hp
         have hen:=(v.bk _ (Mdq.gB_mem hs)).2 _ (gE_mem hp);obtain⟨b1,b2,b3,b4,b5⟩:=hen;have hfe:findE (gB p.bs (shN p o.m.i)).op o.m.i=gE (gB p.bs (shN p o.m.i)).op (posE (gB p.bs (shN p o.m.i)).op o.m.i):=by unfold findE;rw[if_pos hp]
         rw[hfe,if_pos hp];split at hf
         ·simp at hf
         ·rename_i hst
          rw[if_neg hst];refine Sm_rel h v _ hs _ _ hp _ (Int.mul_nonneg (by omega) (by omega)) (Int.le_refl _) (fun k=>?_);show sumE p.nd p.ac (delE _ _) k=_;rw[sumE_del _ _ hp];simp only[ctr]
        ·simp at hf
      ·split
       ·exact⟨h.par,h.acc,h.eq⟩
       ·split
        ·unfold reaF Mds.rearmF;split<;>exact⟨h.par,h.acc,h.eq⟩
        ·unfold lmtF;split
         ·exact h
         ·rename_i hl
          have e1:limL p.cl o.m.z o.m.v=p.cl.set o.m.z.toNat (nP p.cl o.m.z.toNat,o.m.v):=by unfold limL;rw[if_pos (by omega)]
          refine⟨?_,h.acc,h.eq⟩
          first
           |exact par_lim h.par _ _
           |(have h9:=par_lim h.par o.m.z o.m.v;rw[e1]at h9;exact h9)
end
end Sme
end Go.Proofs.YtfbajlcljfjbkaaGreat
