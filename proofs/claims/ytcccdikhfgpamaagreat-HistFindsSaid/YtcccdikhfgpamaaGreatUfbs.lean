/- Texts side by side. -/
import Derived.Test.YtcccdikhfgpamaaGreatUfab
import Derived.Test.YtcccdikhfgpamaaGreatUfaz
set_option linter.unusedVariables false
set_option linter.unusedSimpArgs false
set_option maxRecDepth 100000
set_option maxHeartbeats 16000000
namespace Go.Proofs.YtcccdikhfgpamaaGreat
open Kap Abv Go.ChangeShapes Go.WideShapes Go.ChangeAt Go.RowKit Mem Tre Ref3 Law3 Fix3 Opn Bnd Flo Cfg CrdB CrdC Rr4 Fr4 St7 Lat
namespace Rul5
attribute [local go_sem] run_store_float
theorem ref_any(sh wi ra ta:Int)(A B C:Option Addr)(c d f n m k:Nat)(nd:List (Int×Int))(ac:List Int)(sy:List (Int×Int×Int×Nat))(w:World)(hn:Hid (n=nd.length))(hm:Hid (m=ac.length))(hk:Hid (k=sy.length))
  (hl:Hid (Nds w w.heap.size A nd))(hu:Hid (Ris w w.heap.size B ac))(hs:Hid (Btb w w.heap.size C sy))(hmaz:(k:Int)≤4398046511104):
  Calls Tryz.prog 6 #[.agg #[.int .i64 sh,.int .i64 wi,.int .i64 ra,.int .i64 ta,.slice A n c,.slice B m d,.slice C k f]] w (MadeCf sh wi ra ta nd ac sy w):=by
 obtain⟨i0,hi,aj,ak,al⟩:=info_parts sym_info;have ar:=run18;have k1:Hid (Blk (((w.alloc (.cells (vC sh wi ra ta A n c B m d C k f) 26)).alloc (.cells (vC 0 0 0 0 none 0 0 none 0 0 none 0 0) 31)).alloc (.cells (vC sh wi ra ta A n c B m d none 0 0) 31)) w.heap.size 26 (vC sh wi ra ta A n c B m d C k f)):=((Blk.fresh w _ _).alloc _).alloc _
 have k2:Hid (Blk (((w.alloc (.cells (vC sh wi ra ta A n c B m d C k f) 26)).alloc (.cells (vC 0 0 0 0 none 0 0 none 0 0 none 0 0) 31)).alloc (.cells (vC sh wi ra ta A n c B m d none 0 0) 31)) (w.heap.size+1) 31 (vC 0 0 0 0 none 0 0 none 0 0 none 0 0)):=by
  have:=Blk.fresh (w.alloc (.cells (vC sh wi ra ta A n c B m d C k f) 26)) 31 (vC 0 0 0 0 none 0 0 none 0 0 none 0 0);simp only[World.size_alloc]at this;exact this.alloc _
 have kO:Hid (Blk (((w.alloc (.cells (vC sh wi ra ta A n c B m d C k f) 26)).alloc (.cells (vC 0 0 0 0 none 0 0 none 0 0 none 0 0) 31)).alloc (.cells (vC sh wi ra ta A n c B m d none 0 0) 31)) (w.heap.size+1+1) 31 (vC sh wi ra ta A n c B m d none 0 0)):=by
  have:=Blk.fresh ((w.alloc (.cells (vC sh wi ra ta A n c B m d C k f) 26)).alloc (.cells (vC 0 0 0 0 none 0 0 none 0 0 none 0 0) 31)) 31 (vC sh wi ra ta A n c B m d none 0 0);simp only[World.size_alloc]at this;exact this
 have b0:Below w.heap.size w (((w.alloc (.cells (vC sh wi ra ta A n c B m d C k f) 26)).alloc (.cells (vC 0 0 0 0 none 0 0 none 0 0 none 0 0) 31)).alloc (.cells (vC sh wi ra ta A n c B m d none 0 0) 31)):=((ψ.alloc τ _).alloc (by simp) _).alloc (by simp;omega) _
 go_enter Tryz.func6,Tryz.ntmps6
 go_upto_region 2 with fail
 generalize (((w.alloc (.cells (vC sh wi ra ta A n c B m d C k f) 26)).alloc (.cells (vC 0 0 0 0 none 0 0 none 0 0 none 0 0) 31)).alloc (.cells (vC sh wi ra ta A n c B m d none 0 0) 31))=W0 at k1 k2 kO b0 ⊢;have g1:w.heap.size<w.heap.size+1:=by omega
 have g2:w.heap.size+1<w.heap.size+1+1:=by omega
 generalize w.heap.size+1+1=s at g2 kO ⊢;generalize w.heap.size+1=gR at g1 g2 k2 ⊢
 go_wp2_with fail
 go_loopg [4] k (fun g s4 l=> ∃(j:Nat) (t:Option Addr) (x:Nat),j+g=k∧s4= ι j∧Hid (Blk l s 31 (vC sh wi ra ta A n c B m d t j x))∧Hid (l.ownsRow (s+1) 86 4 (.slice t j x) j (smbs (sy.take j)))∧Below s W0 l)
 case atStart=>exact⟨0,none,0,by omega,rfl,kO,World.ownsRow_nil _ _ _ _,Below.refl _ _⟩
 case round=>
  obtain⟨j,t,x,hj,rfl,L,y,F⟩:=hrel;have q1:=κ (Blk.below k1.o F (by omega));have f6:=χ (q1.o.cell 6);have e6:=χ (L.o.cell 6);have am:=L.o.lt;by_cases hlt:(j:Int)<(k:Int)
  ·obtain⟨g,rfl⟩: ∃g,gk=g+1:=⟨gk-1,by omega⟩;have ab:Btb wr w.heap.size C sy:=Rd.below hs.o (b0.trans (F.mono (by omega)));obtain⟨b,o,rfl,hb,ad⟩:=Btb.at (i:=j) ab (by have:=hk.o;omega);obtain⟨d0,d1,d2,d3⟩:=ad j (by have:=hk.o;omega);have an:Hid (smbs (sy.take (j+1))=smbs (sy.take j)++[ι (sP sy j),ι (sQ sy j),ι (sW sy j),.float .f64 (sB sy j)]):=by show _=_;rw[takeS_snoc (by have:=hk.o;omega),smbs_snoc]
   clear ad ab;generalize sP sy j=O at *;generalize sQ sy j=P at *;generalize sW sy j=Q at *;generalize sB sy j=R at *;have W:=κ (Blk.fresh wr 89 #[ι O,ι P,ι Q,.int .u64 (R:Int)]);have S:Hid (Blk (wr.alloc (.cells #[ι O,ι P,ι Q,.int .u64 (R:Int)] 89)) s 31 (vC sh wi ra ta A n c B m d t j x)):=L.o.alloc _;have T:Hid ((wr.alloc (.cells #[ι O,ι P,ι Q,.int .u64 (R:Int)] 89)).ownsRow (s+1) 86 4 (.slice t j x) j (smbs (sy.take j))):=World.ownsRow.alloc y.o _;have ae:Below s W0 (wr.alloc (.cells #[ι O,ι P,ι Q,.int .u64 (R:Int)] 89)):=F.alloc (by omega) _;have af:some wr.heap.size≠(Value.slice t j x).ownBlock:=by intro e;have:=World.ownsRow.lt y.o _ e.symm;omega
   have ag:=κ af;clear af
   go_upto_region 6 with fail
   generalize wr.alloc (.cells #[ι O,ι P,ι Q,.int .u64 (R:Int)] 89)=U at W S T ae ⊢;generalize wr.heap.size=r at W am ag ⊢;have s0:=χ (W.o.cell 0);have s1:=χ (W.o.cell 1);have s2:=χ (W.o.cell 2);have s3:=χ (W.o.cell 3);have v6:=χ (S.o.cell 6);have ah:=S.o.lt;have z:=W.o.lt;have va: ∀X,(fun l=>l.cell? (α s 6)=some (.slice t j x)∧l.cell? (α r 0)=some (ι O)∧l.cell? (α r 1)=some (ι P)∧l.cell? (α r 2)=some (ι Q)∧l.cell? (α r 3)=some (.int .u64 (R:Int))) (U.drew.alloc X):=fun X=>⟨(World.cell?_alloc_lt U.drew X (α s 6) ah).trans v6,(World.cell?_alloc_lt U.drew X (α r 0) z).trans s0,(World.cell?_alloc_lt U.drew X (α r 1) z).trans s1,(World.cell?_alloc_lt U.drew X (α r 2) z).trans s2,(World.cell?_alloc_lt U.drew X (α r 3) z).trans s3⟩
   have VA:=κ va;clear va;refine Ω (fun l=>l.cell? (α s 6)=some (.slice t j x)∧l.cell? (α r 0)=some (ι O)∧l.cell? (α r 1)=some (ι P)∧l.cell? (α r 2)=some (ι Q)∧l.cell? (α r 3)=some (.int .u64 (R:Int))) [15] ?_;have hT:(fun l=>l.cell? (α s 6)=some (.slice t j x)∧l.cell? (α r 0)=some (ι O)∧l.cell? (α r 1)=some (ι P)∧l.cell? (α r 2)=some (ι Q)∧l.cell? (α r 3)=some (.int .u64 (R:Int))) U.drew:=⟨v6,s0,s1,s2,s3⟩;have G:=κ hT;clear hT;refine wpL_word (i:=0) (v:=?_) rfl (by kernel_rfl) (fun _ _ _ h=>h) (by kernel_rfl) _ _ _ _ (by kernel_rfl) (by kernel_rfl) (Or.inl ⟨by rfl,?_⟩) (fun _=>G.o) ?_;rotate_left
   ·intro l _;go_simp
    try with_reducible rfl
   try simp only[Act.put,List.setIfInBounds_toArray,List.set_cons_zero,List.set_cons_succ]
   refine wpL_load (i:=1) (v:=?_) rfl (by kernel_rfl) (fun _ _ _ h=>h) (by kernel_rfl) (by kernel_rfl) _ _ _ _ (by kernel_rfl) (by kernel_rfl) (Or.inl ⟨by rfl,?_⟩) (by kernel_rfl) G.o ?_;rotate_left
   ·intro l hS
    try dsimp only at hS
    obtain⟨x4,x5,x6,x7,x8⟩:=hS;go_simp
    try with_reducible rfl
   try simp only[Act.put,List.setIfInBounds_toArray,List.set_cons_zero,List.set_cons_succ]
   refine wpL_word (i:=2) (v:=?_) rfl (by kernel_rfl) (fun _ _ _ h=>h) (by kernel_rfl) _ _ _ _ (by kernel_rfl) (by kernel_rfl) (Or.inl ⟨by rfl,?_⟩) (fun _=>G.o) ?_;rotate_left
   ·intro l _;go_simp
    try with_reducible rfl
   try simp only[Act.put,List.setIfInBounds_toArray,List.set_cons_zero,List.set_cons_succ]
   refine wpL_load (i:=3) (v:=?_) rfl (by kernel_rfl) (fun _ _ _ h=>h) (by kernel_rfl) (by kernel_rfl) _ _ _ _ (by kernel_rfl) (by kernel_rfl) (Or.inl ⟨by rfl,?_⟩) (by kernel_rfl) G.o ?_;rotate_left
   ·intro l hS
    try dsimp only at hS
    obtain⟨x4,x5,x6,x7,x8⟩:=hS;go_simp
    try with_reducible rfl
   try simp only[Act.put,List.setIfInBounds_toArray,List.set_cons_zero,List.set_cons_succ]
   refine wpL_word (i:=4) (v:=?_) rfl (by kernel_rfl) (fun _ _ _ h=>h) (by kernel_rfl) _ _ _ _ (by kernel_rfl) (by kernel_rfl) (Or.inl ⟨by rfl,?_⟩) (fun _=>G.o) ?_;rotate_left
   ·intro l _;go_simp
    try with_reducible rfl
   try simp only[Act.put,List.setIfInBounds_toArray,List.set_cons_zero,List.set_cons_succ]
   refine wpL_load (i:=5) (v:=?_) rfl (by kernel_rfl) (fun _ _ _ h=>h) (by kernel_rfl) (by kernel_rfl) _ _ _ _ (by kernel_rfl) (by kernel_rfl) (Or.inl ⟨by rfl,?_⟩) (by kernel_rfl) G.o ?_;rotate_left
   ·intro l hS
    try dsimp only at hS
    obtain⟨x4,x5,x6,x7,x8⟩:=hS;go_simp
    try with_reducible rfl
   try simp only[Act.put,List.setIfInBounds_toArray,List.set_cons_zero,List.set_cons_succ]
   refine wpL_word (i:=6) (v:=?_) rfl (by kernel_rfl) (fun _ _ _ h=>h) (by kernel_rfl) _ _ _ _ (by kernel_rfl) (by kernel_rfl) (Or.inl ⟨by rfl,?_⟩) (fun _=>G.o) ?_;rotate_left
   ·intro l _;go_simp
    try with_reducible rfl
   try simp only[Act.put,List.setIfInBounds_toArray,List.set_cons_zero,List.set_cons_succ]
   refine wpL_load (i:=7) (v:=?_) rfl (by kernel_rfl) (fun _ _ _ h=>h) (by kernel_rfl) (by kernel_rfl) _ _ _ _ (by kernel_rfl) (by kernel_rfl) (Or.inl ⟨by rfl,?_⟩) (by kernel_rfl) G.o ?_;rotate_left
   ·intro l hS
    try dsimp only at hS
    obtain⟨x4,x5,x6,x7,x8⟩:=hS;go_simp
    try with_reducible rfl
   try simp only[Act.put,List.setIfInBounds_toArray,List.set_cons_zero,List.set_cons_succ]
   refine wpL_word (i:=8) (v:=?_) rfl (by kernel_rfl) (fun _ _ _ h=>h) (by kernel_rfl) _ _ _ _ (by kernel_rfl) (by kernel_rfl) (Or.inl ⟨by rfl,?_⟩) (fun _=>G.o) ?_;rotate_left
   ·intro l _;go_simp
    try with_reducible rfl
   try simp only[Act.put,List.setIfInBounds_toArray,List.set_cons_zero,List.set_cons_succ]
   refine wpL_load (i:=9) (v:=?_) rfl (by kernel_rfl) (fun _ _ _ h=>h) (by kernel_rfl) (by kernel_rfl) _ _ _ _ (by kernel_rfl) (by kernel_rfl) (Or.inl ⟨by rfl,?_⟩) (by kernel_rfl) G.o ?_;rotate_left
   ·intro l hS
    try dsimp only at hS
    obtain⟨x4,x5,x6,x7,x8⟩:=hS;go_simp
    try with_reducible rfl
   try simp only[Act.put,List.setIfInBounds_toArray,List.set_cons_zero,List.set_cons_succ]
   refine wpL_word (i:=10) (v:=?_) rfl (by kernel_rfl) (fun _ _ _ h=>h) (by kernel_rfl) _ _ _ _ (by kernel_rfl) (by kernel_rfl) (Or.inl ⟨by rfl,?_⟩) (fun _=>G.o) ?_;rotate_left
   ·intro l _;go_simp
    try with_reducible rfl
   try simp only[Act.put,List.setIfInBounds_toArray,List.set_cons_zero,List.set_cons_succ]
   refine wpL_word (i:=11) (v:=?_) rfl (by kernel_rfl) (fun _ _ _ h=>h) (by kernel_rfl) _ _ _ _ (by kernel_rfl) (by kernel_rfl) (Or.inl ⟨by rfl,?_⟩) (fun _=>G.o) ?_;rotate_left
   ·intro l _;go_simp
    try with_reducible rfl
   try simp only[Act.put,List.setIfInBounds_toArray,List.set_cons_zero,List.set_cons_succ]
   refine wpL_next (n:=12) (by kernel_rfl) rfl (fun K Y=>?_);go_simp;refine Y.out _ _ (VA.o _) ?_;clear Y K
   try simp only[Act.put,List.setIfInBounds_toArray,List.set_cons_zero,List.set_cons_succ]
   refine wpL_next (n:=13) (by kernel_rfl) rfl (fun K Y=>?_);refine step_app1G (own_drew T) rfl _ _ _ rfl i0 (.agg #[ι 0,ι 0,ι 0,.float .f64 0]) 32 Tryz.underlying29 hi aj ak al rfl (by decide) rfl rfl rfl [ι O,ι P,ι Q,.float .f64 R] rfl rfl (by simp[Value.oneCell']) (by unfold maxLen;omega) (by omega) ah ?_;intro A1 V w2 H E;have I:=κ (Blk_grown (Blk.alloc (w:=U.drew) S.o _) E (own_row_ne T.o (by omega)));have J:=κ (Blk_grown (Blk.alloc (w:=U.drew) W.o _) E ag.o);have z0:=χ (I.o.cell 6);have z1:=I.o.thaw 6;have aa:Hid ((fun l=>l.cell? (α s 6)=some (.slice t j x)∧l.cell? (α r 0)=some (ι O)∧l.cell? (α r 1)=some (ι P)∧l.cell? (α r 2)=some (ι Q)∧l.cell? (α r 3)=some (.int .u64 (R:Int))) w2):=⟨I.o.cell 6,J.o.cell 0,J.o.cell 1,J.o.cell 2,J.o.cell 3⟩;refine Y.out _ _ aa.o ?_;clear Y K
   try simp only[Act.put,List.setIfInBounds_toArray,List.set_cons_zero,List.set_cons_succ]
   refine wpL_word (i:=14) (v:=?_) rfl (by kernel_rfl) (fun _ _ _ h=>h) (by kernel_rfl) _ _ _ _ (by kernel_rfl) (by kernel_rfl) (Or.inl ⟨by rfl,?_⟩) (fun _=>aa.o) ?_;rotate_left
   ·intro l _;go_simp
    try with_reducible rfl
   try simp only[Act.put,List.setIfInBounds_toArray,List.set_cons_zero,List.set_cons_succ]
   refine wpL_late (n:=15) (by kernel_rfl) rfl (by kernel_rfl) (fun K Y=>?_);go_simp;refine Y.out _ _ ?_;clear Y K
   try simp only[Act.put,List.setIfInBounds_toArray,List.set_cons_zero,List.set_cons_succ]
   refine Δ ?_
   all_goals
    have ao:Hid ((w2.setCell (α s 6) (.slice A1 (j+1) V)).ownsRow (s+1) 86 4 (.slice A1 (j+1) V) (j+1) (smbs (sy.take (j+1)))):=by
     rw[an.o];exact ownsRow_setCell_below H.o (by simp) _
    have ap:Hid (Blk (w2.setCell (α s 6) (.slice A1 (j+1) V)) s 31 (vC sh wi ra ta A n c B m d A1 (j+1) V)):=blk_set I.o 6 _
    have aq:Below s W0 (w2.setCell (α s 6) (.slice A1 (j+1) V)):=by
     refine(((ae.drew).alloc (by simp;omega) _).grown E (by simp;omega) ?_).setCell τ _;intro q hq;have:=World.ownsRow.lt T.o q hq;omega
    clear I J H E z0 z1 G aa VA
    go_wp2_with fail
    go_roundg g
    case measure=>omega
    case rel=>exact⟨j+1,A1,V,by omega,by go_num,ap,ao,aq⟩
  ·have ai:Hid (j=k):=by show _=_;omega
   have p:=κ (Blk.below k2.o F (by omega));have e0:=L.o.cell 0;have e1:=L.o.cell 1;have e2:=L.o.cell 2;have e3:=L.o.cell 3;have e4:=L.o.cell 4;have e5:=L.o.cell 5;have r0:=p.o.cell 0;have r1:=p.o.cell 1;have r2:=p.o.cell 2;have r3:=p.o.cell 3;have r4:=p.o.cell 4;have r5:=p.o.cell 5;have r6:=p.o.cell 6;have y0:=p.o.thaw 0;have y1:=p.o.thaw 1;have y2:=p.o.thaw 2;have y3:=p.o.thaw 3;have y4:=p.o.thaw 4;have y5:=p.o.thaw 5;have y6:=p.o.thaw 6;simp only[List.getElem?_toArray,List.getElem?_cons_zero,List.getElem?_cons_succ]at e0 e1 e2 e3 e4 e5 r0 r1 r2 r3 r4 r5 r6;obtain⟨c0,V,c2,c3,c4,c5,c6⟩:=st7_cells (a:= .int .i64 sh) (b:= .int .i64 wi) (c:= .int .i64 ra) (d:= .int .i64 ta) (e:= .slice A n c) (f:= .slice B m d) (h:= .slice t j x) p.o;have bF:Below w.heap.size w (st7 wr gR (ι sh) (ι wi) (ι ra) (ι ta) (.slice A n c) (.slice B m d) (.slice t j x)):=st7_below (b0.trans (F.mono (by omega))) (by omega);have NF:=κ (Rd.below' hl.o bF bF.size);have UF:=κ (Rd.below' hu.o bF bF.size)
   have SF:Hid (Smb (st7 wr gR (ι sh) (ι wi) (ι ra) (ι ta) (.slice A n c) (.slice B m d) (.slice t j x)) (st7 wr gR (ι sh) (ι wi) (ι ra) (ι ta) (.slice A n c) (.slice B m d) (.slice t j x)).heap.size t sy):=by
    have h:=Rd.of_own (st7_own (a:= ι sh) (b:= ι wi) (c:= ι ra) (d:= ι ta) (e':= .slice A n c) (f:= .slice B m d) (h:= .slice t j x) y.o (g:=gR) (by omega));have e:sy.take j=sy:=by rw[ai.o,hk.o,List.take_length]
    rw[e]at h;exact h
   have Z:=κ (madeCf_mk (sh:=sh) (wi:=wi) (ra:=ra) (ta:=ta) (c:=c) (d:=d) (f:=x) hn.o hm.o (ai.o.trans hk.o) NF.o UF.o SF.o bF);clear bF y L F b0
   go_wp2_with fail
   unfold st7 at c0 V c2 c3 c4 c5 c6 Z;exact bodyPost_ret (v:= .agg #[ι sh,ι wi,ι ra,ι ta,.slice A n c,.slice B m d,.slice t j x]) (by simp[results,Tryz.results6,go_sem,c0,V,c2,c3,c4,c5,c6]) rfl Z.o
end Rul5
end Go.Proofs.YtcccdikhfgpamaaGreat
