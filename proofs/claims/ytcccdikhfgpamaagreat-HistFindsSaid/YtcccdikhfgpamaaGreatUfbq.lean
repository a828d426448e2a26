/- Texts side by side. -/
import Derived.Test.YtcccdikhfgpamaaGreatUfax
import Derived.Test.YtcccdikhfgpamaaGreatUfbl
set_option linter.unusedVariables false
set_option linter.unusedSimpArgs false
set_option maxRecDepth 100000
set_option maxHeartbeats 16000000
namespace Go.Proofs.YtcccdikhfgpamaaGreat
open Lat
namespace Lau
open Go
section
variable {P : Program} {ops : Array Oper} {Q : Exit → Act → World → Prop} {md : Region.Mode} {T : World → Prop} {st : List Nat} {i k d : Nat} {oi : Oper} {v : Value} {up : Array Bool} {a : Act} {w : World}
theorem wLd (_hn : i + (k + 1) = ops.size + d) (hT : T w) (hy : ∀ w', T w' → (execOp a.eval oi).run P w' = .ok (.value v) w') (hg : wpL P md ops Q T st k (up.setIfInBounds i true) (a.put oi.dst v) w) (hi : ops[i]? = some oi := by rfl) (hw : Region.wanted oi (yielded ops a.tmps) = true := by rfl) (hs : Region.noSelect ops = true := by kernel_rfl) (hQ : ∀ c a w, Q (.panic c) (a.put oi.dst v) w → Q (.panic c) a w := by exact fun _ _ _ h => h) (hns : st.contains i = false := by kernel_rfl) (hlt : waits md ops st i = true := by kernel_rfl) (hf : Region.free md ops up i = true := by kernel_rfl) (hr : (Region.ready md ops up).contains i = true := by kernel_rfl) (hc : clean st up = true := by kernel_rfl) :
    wpL P md ops Q T st (k + 1) up a w := wpL_load hi hs hQ hns hlt _ _ _ _ hf hr (.inl ⟨hw, hy⟩) hc hT hg
theorem wWd (_hn : i + (k + 1) = ops.size + d) (hT : clean st up = true → T w) (hy : ∀ w', True → (execOp a.eval oi).run P w' = .ok (.value v) w') (hg : wpL P md ops Q T st k (up.setIfInBounds i true) (a.put oi.dst v) w) (hi : ops[i]? = some oi := by rfl) (hw : Region.wanted oi (yielded ops a.tmps) = true := by rfl) (hs : Region.noSelect ops = true := by kernel_rfl) (hQ : ∀ c a w, Q (.panic c) (a.put oi.dst v) w → Q (.panic c) a w := by exact fun _ _ _ h => h) (hns : st.contains i = false := by kernel_rfl) (hf : Region.free md ops up i = true := by kernel_rfl) (hr : (Region.ready md ops up).contains i = true := by kernel_rfl) :
    wpL P md ops Q T st (k + 1) up a w := wpL_word hi hs hQ hns _ _ _ _ hf hr (.inl ⟨hw, hy⟩) hT hg
end
theorem sX {R X : Prop} (kk : R) (h : R → X := by
  intro hk
  first
  | refine wWd (d := 0) (v := ?_) rfl (fun _ => HT.out) ?_ ?_
    rotate_left
    · intro w' _
      go_simp
      try with_reducible rfl
  | refine wLd (d := 0) (v := ?_) rfl HT.out ?_ ?_
    rotate_left
    · intro w' hS
      have hS := hC w' hS
      repeat obtain ⟨x, hS⟩ := hS
      go_simp
      try with_reducible rfl
  (try simp only [Act.put, List.getElem_toArray, List.getElem_cons_succ, List.getElem_cons_zero, List.setIfInBounds_toArray, List.set_cons_zero, List.set_cons_succ])
  exact hk) : X := h kk
theorem sY {R X : Prop} (kk : R) (h : R → X := by
  intro hk
  first
  | refine wWd (d := 1) (v := ?_) rfl (fun _ => HT.out) ?_ ?_
    rotate_left
    · intro w' _
      go_simp
      try with_reducible rfl
  | refine wLd (d := 1) (v := ?_) rfl HT.out ?_ ?_
    rotate_left
    · intro w' hS
      have hS := hC w' hS
      repeat obtain ⟨x, hS⟩ := hS
      go_simp
      try with_reducible rfl
  (try simp only [Act.put, List.getElem_toArray, List.getElem_cons_succ, List.getElem_cons_zero, List.setIfInBounds_toArray, List.set_cons_zero, List.set_cons_succ])
  exact hk) : X := h kk
theorem sW {R X : Prop} (kk : R) (h : R → X := by
  intro hk
  refine wWd (d := 0) (v := ?_) rfl (fun h => absurd h (by decide +kernel)) ?_ ?_
  rotate_left
  · intro w' _
    go_simp
    try with_reducible rfl
  (try simp only [Act.put, List.getElem_toArray, List.getElem_cons_succ, List.getElem_cons_zero, List.setIfInBounds_toArray, List.set_cons_zero, List.set_cons_succ])
  exact hk) : X := h kk
theorem sK {R X : Prop} (kk : R) (h : R → X := by
  intro hk
  refine hK.out _ _ HT.out ?_
  (try simp only [Act.put, List.getElem_toArray, List.getElem_cons_succ, List.getElem_cons_zero, List.setIfInBounds_toArray, List.set_cons_zero, List.set_cons_succ])
  exact hk) : X := h kk
theorem sL {R X : Prop} (kk : R) (h : R → X := by
  intro hk
  refine hK.out _ _ ?_
  (try simp only [Act.put, List.getElem_toArray, List.getElem_cons_succ, List.getElem_cons_zero, List.setIfInBounds_toArray, List.set_cons_zero, List.set_cons_succ])
  exact hk) : X := h kk
end Lau
namespace Lou
open Kap Abv Lax Go.ChangeShapes Go.WideShapes Go.ChangeAt Go.RowKit Mem Tre Ref3 Law3 Fix3 CrdB CrdC Rr4 Rul3 Wpl Wmr Wrt St7 Rul6 Lau
def stN(W:World)(g:Nat):Nat→List Value→World
 |_,[]=>W
 |i,v :: vs=>stN (W.setCell ⟨g,i,none⟩ v) g (i+1) vs
variable {g:Nat} {te:TypeId} {W:World}
theorem stN_below{B:Nat}{w:World}(hg:B≤g): ∀(vs:List Value) (i:Nat) {W:World},Below B w W→Below B w (stN W g i vs)
 |[],_,_,h=>h
 |v :: vs,i,_,h=>stN_below hg vs (i+1) (h.setCell (p:=⟨g,i,none⟩) hg v)
theorem stN_go: ∀(vs:List Value) (i:Nat) (W:World) (cs:Array Value),Blk W g te cs→cs.size=i+vs.length→Blk (stN W g i vs) g te ((cs.toList.take i++vs).toArray)
 |[],i,W,cs,h,hs=>by
  have e:(cs.toList.take i++[]).toArray=cs:=by
   rw[List.append_nil,List.take_of_length_le (by simpa using Nat.le_of_eq hs)]
  rw[e];exact h
 |v :: vs,i,W,cs,h,hs=>by
  have h1:=stN_go vs (i+1) _ _ (blk_set h i v) (by simp only[Array.size_setIfInBounds,List.length_cons]at hs ⊢;omega)
  have e:(cs.setIfInBounds i v).toList.take (i+1)++vs=cs.toList.take i++v :: vs:=by
   have hi:i<cs.toList.length:=by simp only[List.length_cons,Array.length_toList]at hs ⊢;omega
   rw[Array.toList_setIfInBounds,List.take_add_one,List.take_set_of_le τ,List.getElem?_set_self hi,List.append_assoc]
   rfl
  rw[e]at h1;exact h1
theorem stN_blk{es vs:List Value}(h:Blk W g te es.toArray)(hl:es.length=vs.length):Blk (stN W g 0 vs) g te vs.toArray:=by
 have h1:=stN_go vs 0 W _ h (by simpa using hl);simpa using h1
theorem c15_of{v0 v1 v2 v3 v4 v5 v6 v7 v8 v9 v10 v11 v12 v13 v14:Value}(h:Blk W g te #[v0,v1,v2,v3,v4,v5,v6,v7,v8,v9,v10,v11,v12,v13,v14]):W.cell? ⟨g,0,none⟩=some v0∧W.cell? ⟨g,1,none⟩=some v1∧W.cell? ⟨g,2,none⟩=some v2∧W.cell? ⟨g,3,none⟩=some v3∧W.cell? ⟨g,4,none⟩=some v4∧W.cell? ⟨g,5,none⟩=some v5∧W.cell? ⟨g,6,none⟩=some v6∧W.cell? ⟨g,7,none⟩=some v7∧W.cell? ⟨g,8,none⟩=some v8∧W.cell? ⟨g,9,none⟩=some v9∧W.cell? ⟨g,10,none⟩=some v10∧W.cell? ⟨g,11,none⟩=some v11∧W.cell? ⟨g,12,none⟩=some v12∧W.cell? ⟨g,13,none⟩=some v13∧W.cell? ⟨g,14,none⟩=some v14:=⟨h.cell 0,h.cell 1,h.cell 2,h.cell 3,h.cell 4,h.cell 5,h.cell 6,h.cell 7,h.cell 8,h.cell 9,h.cell 10,h.cell 11,h.cell 12,h.cell 13,h.cell 14⟩
theorem to_any(m:M)(w:World):Calls Tryz.prog 47 #[mvl m] w (MadeM m w):=by
 obtain⟨k,a,s,x,p,q,n,t,i,y,z,v⟩:=m;show Calls Tryz.prog 47 #[.agg #[.int .i64 k,.int .i64 a,.int .i64 s,.bool x,.int .i64 p,.int .i64 q,.int .i64 n,.int .i64 t,.int .i64 i,.int .i64 y,.int .i64 z,.int .i64 v]] w (MadeM ⟨k,a,s,x,p,q,n,t,i,y,z,v⟩ w);have b0:=κ (γ w (.cells (vM k a s x p q n t i y z v) 57) (.cells (vM 0 0 0 false 0 0 0 0 0 0 0 0) 77));have HT:=κ ((Blk.fresh w 57 (vM k a s x p q n t i y z v)).alloc (.cells (vM 0 0 0 false 0 0 0 0 0 0 0 0) 77));have zB:Hid (Blk ((w.alloc (.cells (vM k a s x p q n t i y z v) 57)).alloc (.cells (vM 0 0 0 false 0 0 0 0 0 0 0 0) 77)) (w.heap.size+1) 77 (vM 0 0 0 false 0 0 0 0 0 0 0 0)):=blk_at (by simp)
 go_enter Tryz.func47,Tryz.ntmps47
 go_upto_region 1 with fail
 generalize ((w.alloc (.cells (vM k a s x p q n t i y z v) 57)).alloc (.cells (vM 0 0 0 false 0 0 0 0 0 0 0 0) 77))=w0 at b0 HT zB ⊢;have hg:Hid (w.heap.size≤w.heap.size+1):=by show _≤_;omega
 generalize w.heap.size+1=gR at zB hg ⊢;obtain⟨gM,hgM⟩:=ν w.heap.size;have HT:=κ (ε (ζ hgM HT.out));have zB:Hid (Blk w0.drew gR 77 (vM 0 0 0 false 0 0 0 0 0 0 0 0)):=zB;rw[←hgM];clear hgM;have hC:=fun(w':World) (h:Blk w' gM 57 (vM k a s x p q n t i y z v))=>c12_of h
 refine Ω (fun w'=>Blk w' gM 57 #[ι k,ι a,ι s,.bool x,ι p,ι q,ι n,ι t,ι i,ι y,ι z,ι v]) [14] ?_
 iterate 4 refine sX ?_
 iterate 8 refine sY ?_
 refine jN 4 fun K' hK=>?_
 go_simp;refine(order_any a s x p q n t _).mono ?_;rintro e w5 ⟨rfl,hb5⟩;have HT:=κ (Blk.below' HT.out hb5);have HR:=κ (Blk.below' zB.out hb5);have B5:=κ (below_step b0.out.drew hb5)
 go_wp2_with fail
 refine sK ?_;clear hK K';refine sX ?_;have hz:=fun j=>HR.out.cell j
 have ht:=fun j=>HR.out.thaw j
 obtain⟨z0,z1,z2,z3,z4,z5,z6,z7,z8,z9,z10,z11⟩:=c12_of HR.out;obtain⟨y0,y1,y2,y3,y4,y5,y6,y7,y8,y9,y10,y11⟩:w5.frozen? ⟨gR,0,none⟩=false∧w5.frozen? ⟨gR,1,none⟩=false∧w5.frozen? ⟨gR,2,none⟩=false∧w5.frozen? ⟨gR,3,none⟩=false∧w5.frozen? ⟨gR,4,none⟩=false∧w5.frozen? ⟨gR,5,none⟩=false∧w5.frozen? ⟨gR,6,none⟩=false∧w5.frozen? ⟨gR,7,none⟩=false∧w5.frozen? ⟨gR,8,none⟩=false∧w5.frozen? ⟨gR,9,none⟩=false∧w5.frozen? ⟨gR,10,none⟩=false∧w5.frozen? ⟨gR,11,none⟩=false:=⟨ht 0,ht 1,ht 2,ht 3,ht 4,ht 5,ht 6,ht 7,ht 8,ht 9,ht 10,ht 11⟩;refine jV 14 fun K' hK=>?_
 go_simp;refine sL ?_;clear hK K';refine Δ ?_;have f3:Blk (stN w5 gR 0 [ι k,ι a,ι s,.bool x,ι p,ι q,ι n,ι t,ι i,ι y,ι z,ι v]) gR 77 (vM k a s x p q n t i y z v):=stN_blk HR.out rfl;have hfin:Below w.heap.size w (stN w5 gR 0 [ι k,ι a,ι s,.bool x,ι p,ι q,ι n,ι t,ι i,ι y,ι z,ι v]):=stN_below hg.out _ _ B5.out
 go_wp2_with fail
 obtain⟨d0,d1,d2,d3,d4,d5,d6,d7,d8,d9,d10,d11⟩:=c12_of f3;simp only[stN,Nat.reduceAdd]at d0 d1 d2 d3 d4 d5 d6 d7 d8 d9 d10 d11 hfin;exact bodyPost_ret (v:= .agg #[ι k,ι a,ι s,.bool x,ι p,ι q,ι n,ι t,ι i,ι y,ι z,ι v]) (by simp[results,Tryz.results47,go_sem,d0,d1,d2,d3,d4,d5,d6,d7,d8,d9,d10,d11]) rfl ⟨rfl,hfin⟩
def MadeOp(k a s:Int)(x:Bool)(p q n t i y z v:Int)(sw:Bool)(sx ex:Int)(w:World)(e:Ending)(w':World):Prop:=e= .returned (.agg #[.int .i64 k,.int .i64 a,.int .i64 s,.bool x,.int .i64 p,.int .i64 q,.int .i64 n,.int .i64 t,.int .i64 i,.int .i64 y,.int .i64 z,.int .i64 v,.bool sw,.int .i64 sx,.int .i64 ex])∧Below w.heap.size w w'
theorem op_any(k a s p q n t i y z v sx ex:Int)(x sw:Bool)(w:World):Calls Tryz.prog 23 #[.agg #[.int .i64 k,.int .i64 a,.int .i64 s,.bool x,.int .i64 p,.int .i64 q,.int .i64 n,.int .i64 t,.int .i64 i,.int .i64 y,.int .i64 z,.int .i64 v,.bool sw,.int .i64 sx,.int .i64 ex]] w (MadeOp k a s x p q n t i y z v sw sx ex w):=by
 have b0:=κ (γ w (.cells (vP k a s x p q n t i y z v sw sx ex) 59) (.cells (vP 0 0 0 false 0 0 0 0 0 0 0 0 false 0 0) 79));have HT:=κ ((Blk.fresh w 59 (vP k a s x p q n t i y z v sw sx ex)).alloc (.cells (vP 0 0 0 false 0 0 0 0 0 0 0 0 false 0 0) 79));have zB:Hid (Blk ((w.alloc (.cells (vP k a s x p q n t i y z v sw sx ex) 59)).alloc (.cells (vP 0 0 0 false 0 0 0 0 0 0 0 0 false 0 0) 79)) (w.heap.size+1) 79 (vP 0 0 0 false 0 0 0 0 0 0 0 0 false 0 0)):=blk_at (by simp)
 go_enter Tryz.func23,Tryz.ntmps23
 go_upto_region 1 with fail
 generalize ((w.alloc (.cells (vP k a s x p q n t i y z v sw sx ex) 59)).alloc (.cells (vP 0 0 0 false 0 0 0 0 0 0 0 0 false 0 0) 79))=w0 at b0 HT zB ⊢;have hg:Hid (w.heap.size≤w.heap.size+1):=by show _≤_;omega
 generalize w.heap.size+1=gR at zB hg ⊢;obtain⟨gM,hgM⟩:=ν w.heap.size;have HT:=κ (ε (ζ hgM HT.out));have zB:Hid (Blk w0.drew gR 79 (vP 0 0 0 false 0 0 0 0 0 0 0 0 false 0 0)):=zB;rw[←hgM];clear hgM;have hC:=fun(w':World) (h:Blk w' gM 59 (vP k a s x p q n t i y z v sw sx ex))=>c15_of h
 refine Ω (fun w'=>Blk w' gM 59 #[ι k,ι a,ι s,.bool x,ι p,ι q,ι n,ι t,ι i,ι y,ι z,ι v,.bool sw,ι sx,ι ex]) [10] ?_
 iterate 2 refine sX ?_
 iterate 6 refine sY ?_
 refine jN 2 fun K' hK=>?_
 go_simp;refine(to_any ⟨k,a,s,x,p,q,n,t,i,y,z,v⟩ _).mono ?_;rintro e w5 ⟨rfl,hb5⟩;have HT:=κ (Blk.below' HT.out hb5);have HR:=κ (Blk.below' zB.out hb5);have B5:=κ (below_step b0.out.drew hb5);unfold mvl
 go_wp2_with fail
 refine sK ?_;clear hK K';refine sX ?_;have hz:=fun j=>HR.out.cell j
 have ht:=fun j=>HR.out.thaw j
 obtain⟨z0,z1,z2,z3,z4,z5,z6,z7,z8,z9,z10,z11,z12,z13,z14⟩:=c15_of HR.out;obtain⟨y0,y1,y2,y3,y4,y5,y6,y7,y8,y9,y10,y11,y12,y13,y14⟩:w5.frozen? ⟨gR,0,none⟩=false∧w5.frozen? ⟨gR,1,none⟩=false∧w5.frozen? ⟨gR,2,none⟩=false∧w5.frozen? ⟨gR,3,none⟩=false∧w5.frozen? ⟨gR,4,none⟩=false∧w5.frozen? ⟨gR,5,none⟩=false∧w5.frozen? ⟨gR,6,none⟩=false∧w5.frozen? ⟨gR,7,none⟩=false∧w5.frozen? ⟨gR,8,none⟩=false∧w5.frozen? ⟨gR,9,none⟩=false∧w5.frozen? ⟨gR,10,none⟩=false∧w5.frozen? ⟨gR,11,none⟩=false∧w5.frozen? ⟨gR,12,none⟩=false∧w5.frozen? ⟨gR,13,none⟩=false∧w5.frozen? ⟨gR,14,none⟩=false:=⟨ht 0,ht 1,ht 2,ht 3,ht 4,ht 5,ht 6,ht 7,ht 8,ht 9,ht 10,ht 11,ht 12,ht 13,ht 14⟩;refine jV 10 fun K' hK=>?_
 go_simp;refine sL ?_;clear hK K';refine Δ ?_;have f3:Blk (stN w5 gR 0 [ι k,ι a,ι s,.bool x,ι p,ι q,ι n,ι t,ι i,ι y,ι z,ι v,.bool sw,ι sx,ι ex]) gR 79 (vP k a s x p q n t i y z v sw sx ex):=stN_blk HR.out rfl;have hfin:Below w.heap.size w (stN w5 gR 0 [ι k,ι a,ι s,.bool x,ι p,ι q,ι n,ι t,ι i,ι y,ι z,ι v,.bool sw,ι sx,ι ex]):=stN_below hg.out _ _ B5.out
 go_wp2_with fail
 obtain⟨d0,d1,d2,d3,d4,d5,d6,d7,d8,d9,d10,d11,d12,d13,d14⟩:=c15_of f3;simp only[stN,Nat.reduceAdd]at d0 d1 d2 d3 d4 d5 d6 d7 d8 d9 d10 d11 d12 d13 d14 hfin;exact bodyPost_ret (v:= .agg #[ι k,ι a,ι s,.bool x,ι p,ι q,ι n,ι t,ι i,ι y,ι z,ι v,.bool sw,ι sx,ι ex]) (by simp[results,Tryz.results23,go_sem,d0,d1,d2,d3,d4,d5,d6,d7,d8,d9,d10,d11,d12,d13,d14]) rfl ⟨rfl,hfin⟩
end Lou
end Go.Proofs.YtcccdikhfgpamaaGreat
