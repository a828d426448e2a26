/- Texts side by side. -/
import Derived.Test.YtaeddnjjeholgaaGreatUgai
import Derived.Test.YtaeddnjjeholgaaGreatUgal
import Derived.Test.YtaeddnjjeholgaaGreatUgbe
set_option linter.unusedVariables false
set_option linter.unusedSimpArgs false
set_option maxRecDepth 100000
set_option maxHeartbeats 16000000
namespace Go.Proofs.YtaeddnjjeholgaaGreat
open Lat
namespace Lax
open Go
structure Ix (n : Nat) : Prop where
  ok : True
section
variable {P : Program} {ops : Array Oper} {Q : Exit → Act → World → Prop} {md : Region.Mode} {T : World → Prop} {st : List Nat} {i k : Nat} {oi : Oper} {v : Value} {up : Array Bool} {a : Act} {w : World}
theorem iLd (_x : Ix i) (hT : T w) (hy : ∀ w', T w' → (execOp a.eval oi).run P w' = .ok (.value v) w') (hg : wpL P md ops Q T st k (up.setIfInBounds i true) (a.put oi.dst v) w) (hi : ops[i]? = some oi := by rfl) (hw : Region.wanted oi (yielded ops a.tmps) = true := by rfl) (hs : Region.noSelect ops = true := by kernel_rfl) (hQ : ∀ c a w, Q (.panic c) (a.put oi.dst v) w → Q (.panic c) a w := by exact fun _ _ _ h => h) (hns : st.contains i = false := by kernel_rfl) (hlt : waits md ops st i = true := by kernel_rfl) (hf : Region.free md ops up i = true := by kernel_rfl) (hr : (Region.ready md ops up).contains i = true := by kernel_rfl) (hc : clean st up = true := by kernel_rfl) :
    wpL P md ops Q T st (k + 1) up a w := wpL_load hi hs hQ hns hlt _ _ _ _ hf hr (.inl ⟨hw, hy⟩) hc hT hg
theorem iWd (_x : Ix i) (hT : clean st up = true → T w) (hy : ∀ w', True → (execOp a.eval oi).run P w' = .ok (.value v) w') (hg : wpL P md ops Q T st k (up.setIfInBounds i true) (a.put oi.dst v) w) (hi : ops[i]? = some oi := by rfl) (hw : Region.wanted oi (yielded ops a.tmps) = true := by rfl) (hs : Region.noSelect ops = true := by kernel_rfl) (hQ : ∀ c a w, Q (.panic c) (a.put oi.dst v) w → Q (.panic c) a w := by exact fun _ _ _ h => h) (hns : st.contains i = false := by kernel_rfl) (hf : Region.free md ops up i = true := by kernel_rfl) (hr : (Region.ready md ops up).contains i = true := by kernel_rfl) :
    wpL P md ops Q T st (k + 1) up a w := wpL_word hi hs hQ hns _ _ _ _ hf hr (.inl ⟨hw, hy⟩) hT hg
end
theorem jA (i : Nat) {R X Z : Prop} (hz : Z) (kk : R) (h : Ix i → Z → R → X := by
  intro hi hZ hk
  refine iWd hi (v := ?_) (fun _ => hZ) ?_ ?_
  rotate_left
  · intro w' _
    go_simp
    try with_reducible rfl
  (try simp only [Act.put, List.getElem_toArray, List.getElem_cons_succ, List.getElem_cons_zero, List.setIfInBounds_toArray, List.set_cons_zero, List.set_cons_succ])
  exact hk) : X := h ⟨trivial⟩ hz kk
theorem jB (i : Nat) {R X Z : Prop} (hz : Z) (kk : R) (h : Ix i → Z → R → X := by
  intro hi hZ hk
  refine iLd hi (v := ?_) hZ ?_ ?_
  rotate_left
  · intro w' hS
    (try dsimp only at hS)
    (repeat obtain ⟨x, hS⟩ := hS)
    go_simp
    try with_reducible rfl
  (try simp only [Act.put, List.getElem_toArray, List.getElem_cons_succ, List.getElem_cons_zero, List.setIfInBounds_toArray, List.set_cons_zero, List.set_cons_succ])
  exact hk) : X := h ⟨trivial⟩ hz kk
theorem jZ (i : Nat) {R X : Prop} (kk : R) (h : Ix i → R → X := by
  intro hi hk
  refine iWd hi (v := ?_) (fun h => absurd h (by decide +kernel)) ?_ ?_
  rotate_left
  · intro w' _
    go_simp
    try with_reducible rfl
  (try simp only [Act.put, List.getElem_toArray, List.getElem_cons_succ, List.getElem_cons_zero, List.setIfInBounds_toArray, List.set_cons_zero, List.set_cons_succ])
  exact hk) : X := h ⟨trivial⟩ kk
theorem jP {R X : Prop} (kk : R) (h : R → X := by
  intro hk
  (try simp only [Act.put, List.getElem_toArray, List.getElem_cons_succ, List.getElem_cons_zero, List.setIfInBounds_toArray, List.set_cons_zero, List.set_cons_succ])
  exact hk) : X := h kk
section
variable {P : Program} {ops : Array Oper} {Q : Exit → Act → World → Prop} {md : Region.Mode} {T : World → Prop} {st : List Nat} {n k : Nat} {o : Oper} {up : Array Bool} {a : Act} {w : World}
theorem jN (n : Nat) (h : ∀ K : Act → World → Prop, Shut (∀ a w, T w → wpL P md ops Q T st k (up.setIfInBounds n true) a w → K a w) → if Region.wanted o (yielded ops a.tmps) = true then Oper.wp P o a w K Q else K (a.put o.dst undef) w) (hr : Region.ready md ops up = [n] := by kernel_rfl) (ho : ops[n]? = some o := by rfl) :
    wpL P md ops Q T st (k + 1) up a w := wpL_next hr ho h
theorem jV (n : Nat) (h : ∀ K : Act → World → Prop, Shut (∀ a w, wpL P md ops Q T st k (up.setIfInBounds n true) a w → K a w) → if Region.wanted o (yielded ops a.tmps) = true then Oper.wp P o a w K Q else K (a.put o.dst undef) w) (hr : Region.ready md ops up = [n] := by kernel_rfl) (ho : ops[n]? = some o := by rfl) (hk : clean st (up.setIfInBounds n true) = false := by kernel_rfl) :
    wpL P md ops Q T st (k + 1) up a w := wpL_late hr ho hk h
end
section
variable {P : Program} {ops : Array Oper} {Q : Exit → Act → World → Prop} {md : Region.Mode} {S : World → Prop} {i k : Nat} {oi : Oper} {v : Value} {up : Array Bool} {a : Act} {w : World}
end
end Lax
namespace Bka
open Kap Abv Lax Go.ChangeShapes Go.WideShapes Go.ChangeAt Go.RowKit Mem Tre Ref3 Law3 Crd CrdB CrdC Rr4 Bkp Bks Bkf Bkh Bcl Dlk Stk Apt Bko Bku
def Fb(base:Nat)(A C:Option Addr)(rl:List Rc):Prop:=(∀a,A=some a→base≤a.block)∧(∀a,C=some a→base≤a.block)∧ ∀i,i<rl.length→ ∀a,(gC rl i).A=some a→base≤a.block
def MadeB2(b:Bk)(x:Int)(w:World)(e:Ending)(w':World):Prop:=
 ∃A C c d rl,e= .returned (.tuple #[bkA A C c d b,.int .i64 x])∧Bm w' A C rl b∧Fb w.heap.size A C rl∧Below w.heap.size w w'
variable {b:Bk} {op:List En} {rl:List Rc} {rows:List Ro} {base c c6 cr d gr no1 nr:Nat} {A A6 C:Option Addr} {w w0 w8:World}
theorem Bo_mono{base':Nat}(h:Bo base w A C c d rl b)(hb:base'≤base):Bo base' w A C c d rl b:=
 ⟨own_mono h.r hb,own_mono h.o hb,h.e,fun k hk=>own_mono (h.own k hk) hb,h.ap⟩
theorem Bo_st(h:Bo base w A C c d rl b){g:Nat}{te:TypeId}{cs:Array Value}(hk:Blk w g te cs)(h1:165≠te)(h2:162≠te)(h3:2≠te)(i:Nat)(x:Value):Bo base (w.setCell ⟨g,i,none⟩ x) A C c d rl b:=
 ⟨own_st h.r hk h1 i x,own_st h.o hk h2 i x,h.e,fun k hk'=>own_st (h.own k hk') hk h3 i x,h.ap⟩
theorem Bo_st4(h:Bo base w A C c d rl b){g:Nat}{te:TypeId}{u0 u1 u2 u3:Value}(hk:Blk w g te #[u0,u1,u2,u3])(h1:165≠te)(h2:162≠te)(h3:2≠te)(v0 v1 v2 v3:Value):Bo base (Stk.st4 w g v0 v1 v2 v3) A C c d rl b:=
 ⟨own_st4 h.r hk h1,own_st4 h.o hk h2,h.e,fun k hk'=>own_st4 (h.own k hk') hk h3,h.ap⟩
theorem Bo_fb(h:Bo base w A C c d rl b):Fb base A C rl:=
 ⟨own_fresh h.r,own_fresh h.o,fun i hi=>own_fresh (h.own i hi)⟩
theorem Bo_len(h:Bo base w A C c d rl b):rl.length=b.rows.length:=by rw[←h.e];simp
structure A7(w0 w:World)(rl:List Rc)(gr nr cr no1:Nat)(A6:Option Addr)(c6:Nat)(rows:List Ro)(op:List En):Prop where
 r:w.ownsRow w0.heap.size 165 3 (.slice (some ⟨gr,0,none⟩) nr cr) nr (rcs rl)
 o:w.ownsRow w0.heap.size 162 11 (.slice A6 no1 c6) no1 (ens op)
 e:rl.map Rc.r=rows
 own: ∀k,k<rl.length→OwR w0.heap.size w (gC rl k)
 ap:Apa rl rl.length
 b:Below w0.heap.size w0 w
structure A9(w0 w:World)(rl:List Rc)(gr nr cr no1:Nat)(A6:Option Addr)(c6:Nat)(rows:List Ro)(op:List En)(gR:Nat):Prop where
 r:w.ownsRow w0.heap.size 165 3 (.slice (some ⟨gr,0,none⟩) nr cr) nr (rcs rl)
 o:w.ownsRow w0.heap.size 162 11 (.slice A6 no1 c6) no1 (ens op)
 e:rl.map Rc.r=rows
 n: ∀k,k<rl.length→Ris w w.heap.size (gC rl k).A (gC rl k).r.ns
 f: ∀k,k<rl.length→ ∀a,(gC rl k).A=some a→w0.heap.size≤a.block
 ne: ∀k,k<rl.length→ ∀a,(gC rl k).A=some a→a.block≠gR
 b:Below w0.heap.size w0 w
theorem own_ne_A{n:Nat}{xs:List Value}(h:w.ownsRow base 2 1 (.slice A n c) n xs){b2 s2 n2:Nat}{e2:TypeId}{v2:Value}{x2:List Value}(k:w.ownsRow b2 e2 s2 v2 n2 x2)(hne:e2≠2)(hg:w.grownBy w8 (Value.slice A 0 0).ownBlock):w8.ownsRow b2 e2 s2 v2 n2 x2:=by
 rw[←ownBlock_len A n c]at hg;exact own_grown k h hne hg
theorem A7.used(h:A7 w0 w rl gr nr cr no1 A6 c6 rows op){i:Nat}(hi:i<rl.length){gR:Nat}{cs:Array Value}(hR:Blk w gR 63 cs)
  (hg:w.grownBy w8 (Value.slice (gC rl i).A 0 0).ownBlock){A8:Option Addr}{uns:List Int}(hr:Ris w8 w8.heap.size A8 uns)(hf: ∀a,A8=some a→w0.heap.size≤a.block)(hp: ∀a,A8=some a→(Value.slice (gC rl i).A 0 0).ownBlock=some a.block∨w.heap.size≤a.block)(c8:Nat)(us uc:Int):
  A9 w0 (((w8.setCell ⟨gr,i*3,none⟩ (.slice A8 uns.length c8)).setCell ⟨gr,i*3+1,none⟩ (.int .i64 us)).setCell ⟨gr,i*3+2,none⟩ (.int .i64 uc)) (rl.set i ⟨A8,c8,⟨uns,us,uc⟩⟩) gr nr cr no1 A6 c6 (rows.set i ⟨uns,us,uc⟩) op gR:=by
 have hgrl:=World.ownsRow.lt h.r gr rfl;have h8r:=own_ne_A (h.own i hi) h.r (by decide) hg;have h8o:=own_ne_A (h.own i hi) h.o (by decide) hg;obtain⟨s1,g1⟩:=World.ownsRow.stored h8r (i*3) (.slice A8 uns.length c8);obtain⟨s2,g2⟩:=World.ownsRow.stored s1 (i*3+1) (.int .i64 us);obtain⟨s3,g3⟩:=World.ownsRow.stored s2 (i*3+2) (.int .i64 uc)
 have hne8: ∀a,A8=some a→a.block≠gr:=by
  intro a ha e;rcases hp a ha with h1|h1
  ·have:=own_ne h.r (h.own i hi) (by decide);rcases this with h2|h2
   ·simp[Value.ownBlock]at h2
   ·refine h2 ?_;rw[ownBlock_len (gC rl i).A,h1,e];rfl
  ·omega
 have hk: ∀{b2 s2 n2:Nat} {e2:TypeId} {v2:Value} {x2:List Value},w8.ownsRow b2 e2 s2 v2 n2 x2→e2≠165→((((w8.setCell (α gr (i*3)) (.slice A8 uns.length c8)).setCell (α gr (i*3+1)) (ι us)).setCell (α gr (i*3+2)) (ι uc))).ownsRow b2 e2 s2 v2 n2 x2:=fun k hne=>
  own_grown (own_grown (own_grown k h8r hne g1) s1 hne g2) s2 hne g3
 have hlen: ∀k,k<(rl.set i ⟨A8,c8,⟨uns,us,uc⟩⟩).length→k<rl.length:=fun k hk=>by simpa using hk
 have hnR: ∀k,k<rl.length→ ∀a,(gC rl k).A=some a→a.block≠gR:=by
  intro k hk a ha e;refine blk_own_ne hR (h.own k hk) (by decide) ?_;rw[ha];simp[Value.ownBlock,e]
 have hfR:=fun k hk=>own_fresh (h.own k hk)
 refine⟨?_,hk h8o (by decide),?_,?_,?_,?_,?_⟩
 ·rw[rcs_set _ _ _ hi];exact s3
 ·rw[List.map_set,h.e]
 ·intro k hk';have hkl:=hlen k hk';rw[gC_set _ _ _ _ hi];by_cases hki:k=i
  ·rw[if_pos hki];exact Rd.keep' (Rd.keep' (Rd.keep' hr (Nat.lt_succ_self _) hne8 _) (Nat.lt_succ_self _) hne8 _) (Nat.lt_succ_self _) hne8 _
  ·rw[if_neg hki]
   have hap:(Value.slice (gC rl k).A (gC rl k).r.ns.length (gC rl k).c).ownBlock=none∨(Value.slice (gC rl k).A (gC rl k).r.ns.length (gC rl k).c).ownBlock≠(Value.slice (gC rl i).A 0 0).ownBlock:=by
    rw[ownBlock_len];cases hA:(gC rl k).A with
    |none=>exact .inl rfl
    |some a=>
     cases hB:(gC rl i).A with
     |none=>exact .inr (by simp[Value.ownBlock])
     |some b=>
      refine .inr ?_;simp only[Value.ownBlock,ne_eq,Option.some.injEq];rcases Nat.lt_or_gt_of_ne hki with hlt|hlt
      ·exact h.ap k i hlt hi a b hA hB
      ·exact fun e=>h.ap i k hlt hkl b a hB hA e.symm
   exact Rd.of_own (hk (World.ownsRow.kept (h.own k hkl) hg hap) (by decide))
 ·intro k hk' a ha;have hkl:=hlen k hk';rw[gC_set _ _ _ _ hi]at ha;by_cases hki:k=i
  ·rw[if_pos hki]at ha;exact hf a ha
  ·rw[if_neg hki]at ha;exact hfR k hkl a ha
 ·intro k hk' a ha;have hkl:=hlen k hk';rw[gC_set _ _ _ _ hi]at ha;by_cases hki:k=i
  ·rw[if_pos hki]at ha;rcases hp a ha with h1|h1
   ·intro e;refine blk_own_ne hR (h.own i hi) (by decide) ?_;rw[ownBlock_len (gC rl i).A,h1,e]
   ·have:=hR.lt;omega
  ·rw[if_neg hki]at ha;exact hnR k hkl a ha
 ·have hgb:=ξ (own_fresh h.r _ rfl)
  have hb8:=h.b.grown hg h.b.size (fun q hq=>by
   have h1:=own_fresh (h.own i hi)
   cases hB:(gC rl i).A with
   |none=>rw[hB]at hq;simp[Value.ownBlock]at hq
   |some b=>
    rw[hB]at hq
    simp only[Value.ownBlock,Option.some.injEq]at hq
    have:=h1 b hB
    omega)
  exact((hb8.setCell (p:=(α gr (i*3))) hgb _).setCell (p:=(α gr (i*3+1))) hgb _).setCell (p:=(α gr (i*3+2))) hgb _
theorem A9.fin{gR:Nat}(h:A9 w0 w rl gr nr cr no1 A6 c6 rows op gR){u0 u1 u2 u3:Value}(hk:Blk w gR 63 #[u0,u1,u2,u3])(hgR:w0.heap.size≤gR)(v0 v1 v2 v3:Value)(sh ca:Int):
  Bm (Stk.st4 w gR v0 v1 v2 v3) (some ⟨gr,0,none⟩) A6 rl ⟨sh,ca,rows,op⟩∧Fb w0.heap.size (some ⟨gr,0,none⟩) A6 rl∧Below w0.heap.size w0 (Stk.st4 w gR v0 v1 v2 v3):=by
 refine⟨⟨Rd.of_own (own_st4 h.r hk (by decide)),h.e,?_,Rd.of_own (own_st4 h.o hk (by decide))⟩,⟨own_fresh h.r,own_fresh h.o,h.f⟩,st4_below h.b hgR⟩;intro k hk';unfold Stk.st4;exact Rd.keep' (Rd.keep' (Rd.keep' (Rd.keep' (h.n k hk') (Nat.lt_succ_self _) (h.ne k hk') _) (Nat.lt_succ_self _) (h.ne k hk') _) (Nat.lt_succ_self _) (h.ne k hk') _) (Nat.lt_succ_self _) (h.ne k hk') _
theorem add_any(sk ra ta:Int)(wn:Nat)(A1 A2 A3:Option Addr)(n1 n2 n3 c1 c2 c3:Nat)(sh ca:Int)(A C:Option Addr)(nr no c d:Nat)(rl:List Rc)(bk:Bk)(i:Nat)(os op oq on ot:Int)(ox:Bool)(ep:Int)(w:World)(hsh:Hid (sh=bk.sh∧ca=bk.ca))(hnr:Hid (nr=bk.rows.length))(hno:Hid (no=bk.op.length))(hm:Hid (Bm w A C rl bk))(hf:Hid (FewB bk))(h1:1≤sk)(h2:sk≤1000)(hwn:wn≤1000)(hir:i<nr):
  Calls Tryz.prog 157 #[.agg #[.int .i64 sk,.int .i64 (wn:Int),.int .i64 ra,.int .i64 ta,.slice A1 n1 c1,.slice A2 n2 c2,.slice A3 n3 c3],.agg #[.int .i64 sh,.int .i64 ca,.slice A nr c,.slice C no d],.agg #[.int .i64 (i:Int),.int .i64 os,.bool ox,.int .i64 op,.int .i64 oq,.int .i64 on,.int .i64 ot],.int .i64 ep] w (MadeB2 (addF sk wn bk ⟨(i:Int),os,ox,op,oq,on,ot⟩ ep) (bk.sh+sk*bk.ca) w):=by
 obtain⟨i0,hi,hz0,hz1,hz2⟩:=info_parts infoE;have hl1:nr≤1000:=by rw[hnr.out];exact hf.out.rl
 have hl2:no≤1000:=by rw[hno.out];exact hf.out.ol
 have hs0:0≤sh∧sh≤1000:=by rw[hsh.out.1];exact hf.out.sh
 have hc0:0≤ca∧ca≤1000000000:=by rw[hsh.out.2];exact hf.out.ca
 have q2:0≤sk*ca:=Int.mul_nonneg (by omega) hc0.1;obtain⟨idv,hidv⟩:=ν (sh+sk*ca);have N:=fun W=>next_any sk (wn:Int) ra ta A1 A2 A3 n1 n2 n3 c1 c2 c3 sh ca A C nr no c d W h1 h2 hs0.1 hs0.2 hc0.1 hc0.2
 rw[←hidv]at N;have t1:(idv== -1)=false:=by rw[beq_eq_false_iff_ne];omega
 have e5:wrap64 (ca+1)=ca+1:=by unfold wrap64;omega
 have HID:=κ hidv;clear hidv q2 h1 h2;have hin:inQ nr (i:Int)=true:=inQ_t (by omega) (by omega);have H:=fun W=>hasR_any A nr c (i:Int) W
 rw[hin]at H;clear hin;have b0:Hid (Below w.heap.size w ((((w.alloc (.cells (vC sk (wn:Int) ra ta A1 n1 c1 A2 n2 c2 A3 n3 c3) 43)).alloc (.cells (vB sh ca A nr c C no d) 63)).alloc (.cells (vO (i:Int) os ox op oq on ot) 51)).alloc (.cells (vB 0 0 none 0 0 none 0 0) 63))):=(((ψ.alloc τ _).alloc (by simp) _).alloc (by simp<;>omega) _).alloc (by simp<;>omega) _;have K0:Hid (Blk ((((w.alloc (.cells (vC sk (wn:Int) ra ta A1 n1 c1 A2 n2 c2 A3 n3 c3) 43)).alloc (.cells (vB sh ca A nr c C no d) 63)).alloc (.cells (vO (i:Int) os ox op oq on ot) 51)).alloc (.cells (vB 0 0 none 0 0 none 0 0) 63)) w.heap.size 43 (vC sk (wn:Int) ra ta A1 n1 c1 A2 n2 c2 A3 n3 c3)):=(((Blk.fresh w _ _).alloc _).alloc _).alloc _;have K1:Hid (Blk ((((w.alloc (.cells (vC sk (wn:Int) ra ta A1 n1 c1 A2 n2 c2 A3 n3 c3) 43)).alloc (.cells (vB sh ca A nr c C no d) 63)).alloc (.cells (vO (i:Int) os ox op oq on ot) 51)).alloc (.cells (vB 0 0 none 0 0 none 0 0) 63)) (w.heap.size+1) 63 (vB sh ca A nr c C no d)):=Blk.alloc (Blk.alloc (blk_hd (by simp)) _) _;have K2:Hid (Blk ((((w.alloc (.cells (vC sk (wn:Int) ra ta A1 n1 c1 A2 n2 c2 A3 n3 c3) 43)).alloc (.cells (vB sh ca A nr c C no d) 63)).alloc (.cells (vO (i:Int) os ox op oq on ot) 51)).alloc (.cells (vB 0 0 none 0 0 none 0 0) 63)) (w.heap.size+2) 51 (vO (i:Int) os ox op oq on ot)):=Blk.alloc (blk_hd (by simp)) _;have K3:=κ (δ (((w.alloc (.cells (vC sk (wn:Int) ra ta A1 n1 c1 A2 n2 c2 A3 n3 c3) 43)).alloc (.cells (vB sh ca A nr c C no d) 63)).alloc (.cells (vO (i:Int) os ox op oq on ot) 51)) 63 (vB 0 0 none 0 0 none 0 0) (w.heap.size+3))
 go_enter Tryz.func157,Tryz.ntmps157
 go_upto_region 1 with fail
 generalize ((((w.alloc (.cells (vC sk (wn:Int) ra ta A1 n1 c1 A2 n2 c2 A3 n3 c3) 43)).alloc (.cells (vB sh ca A nr c C no d) 63)).alloc (.cells (vO (i:Int) os ox op oq on ot) 51)).alloc (.cells (vB 0 0 none 0 0 none 0 0) 63))=w0 at b0 K0 K1 K2 K3 ⊢;obtain⟨gK,hgK⟩:=ν w.heap.size;obtain⟨gB,hgB⟩:=ν (w.heap.size+1);obtain⟨gO,hgO⟩:=ν (w.heap.size+2);obtain⟨gR,hgR⟩:=ν (w.heap.size+3);have hBR:Hid (gR≠gB):=by show _≠_;omega
 have hBC:Hid (gK≠gB):=by show _≠_;omega
 have hBO:Hid (gO≠gB):=by show _≠_;omega
 have hLB:Hid (w.heap.size≤gB):=by show _≤_;omega
 have hLR:Hid (w.heap.size≤gR):=by show _≤_;omega
 have J0:=κ (ζ hgK K0.out);have J1:=κ (ζ hgB K1.out);have J2:=κ (ζ hgO K2.out);have J3:=κ (ζ hgR K3.out);simp only[←hgR];simp only[←hgO];simp only[←hgB];simp only[←hgK];clear hgK hgB hgO hgR K0 K1 K2 K3;obtain⟨e0,e1,e2,e3,e4,e5',e6⟩:=q7_of J0.out;obtain⟨k0,k1,k2,k3⟩:=q4_of J1.out
 go_upto_region 2 with(go_at_call 180;refine(N _).mono ?_;rintro e w1 ⟨rfl,hb1⟩)
 have HB1:=κ (below_step b0.out hb1);have M0:=κ (Blk.below' J0.out hb1);have M1:=κ (Blk.below' J1.out hb1);have M2:=κ (Blk.below' J2.out hb1);have M3:=κ (Blk.below' J3.out hb1);clear e0 e1 e2 e3 e4 e5' e6 k0 k1 k2 k3 hb1 b0 J0 J1 J2 J3 N;have HM:=κ (hm.out.below HB1.out);obtain⟨k0,k1,k2,k3,f0,f1,f2,f3⟩:=z4_of M1.out;obtain⟨o0,o1,o2,o3,o4,o5,o6⟩:=q7_of M2.out
 go_upto_region 4 with(go_at_call 177;refine(H _).mono ?_;rintro e w1' ⟨rfl,rfl⟩)
 go_wp2_with fail
 refine(own_any sh ca A C nr no c d rl bk _ hsh hnr hno HM hf).mono ?_;rintro e w2 ⟨Ar,Ao,cr,co,rl2,he,hbo,hb2⟩;have hbk:bkA Ar Ao cr co bk= .agg (vB sh ca Ar nr cr Ao no co):=by unfold bkA;rw[hnr.out,hno.out,hsh.out.1,hsh.out.2]
 rw[hbk]at he;subst he;have HBO:=κ (Bo_mono hbo HB1.out.size);have HB2:=κ (below_step HB1.out hb2);have L0:=κ (Blk.below' M0.out hb2);have L1:=κ (Blk.below' M1.out hb2);have L2:=κ (Blk.below' M2.out hb2);have L3:=κ (Blk.below' M3.out hb2);clear k0 k1 k2 k3 f0 f1 f2 f3 o0 o1 o2 o3 o4 o5 o6 hb2 hbk hbo M0 M1 M2 M3 HM HB1 H;obtain⟨k0,k1,k2,k3,f0,f1,f2,f3⟩:=z4_of L1.out;have B3:Hid (Bo w.heap.size ((((w2.setCell (α gB 0) (ι sh)).setCell (α gB 1) (ι ca)).setCell (α gB 2) (.slice Ar nr cr)).setCell (α gB 3) (.slice Ao no co)) Ar Ao cr co rl2 bk):=Bo_st4 HBO.out L1.out (by decide) (by decide) (by decide) _ _ _ _;have P1:Hid (Blk ((((w2.setCell (α gB 0) (ι sh)).setCell (α gB 1) (ι ca)).setCell (α gB 2) (.slice Ar nr cr)).setCell (α gB 3) (.slice Ao no co)) gB 63 (vB sh ca Ar nr cr Ao no co)):=st4_blk L1.out;have P0:Hid (Blk ((((w2.setCell (α gB 0) (ι sh)).setCell (α gB 1) (ι ca)).setCell (α gB 2) (.slice Ar nr cr)).setCell (α gB 3) (.slice Ao no co)) gK 43 (vC sk (wn:Int) ra ta A1 n1 c1 A2 n2 c2 A3 n3 c3)):=st4_far L0.out hBC.out;have P2:Hid (Blk ((((w2.setCell (α gB 0) (ι sh)).setCell (α gB 1) (ι ca)).setCell (α gB 2) (.slice Ar nr cr)).setCell (α gB 3) (.slice Ao no co)) gO 51 (vO (i:Int) os ox op oq on ot)):=st4_far L2.out hBO.out;have P3:Hid (Blk ((((w2.setCell (α gB 0) (ι sh)).setCell (α gB 1) (ι ca)).setCell (α gB 2) (.slice Ar nr cr)).setCell (α gB 3) (.slice Ao no co)) gR 63 (vB 0 0 none 0 0 none 0 0)):=st4_far L3.out hBR.out;have B3b:Hid (Below w.heap.size w ((((w2.setCell (α gB 0) (ι sh)).setCell (α gB 1) (ι ca)).setCell (α gB 2) (.slice Ar nr cr)).setCell (α gB 3) (.slice Ao no co))):=st4_below HB2.out hLB.out
 go_upto_region 5 with fail
 clear k0 k1 k2 k3 f0 f1 f2 f3 L0 L1 L2 L3 HBO HB2;generalize ((((w2.setCell (α gB 0) (ι sh)).setCell (α gB 1) (ι ca)).setCell (α gB 2) (.slice Ar nr cr)).setCell (α gB 3) (.slice Ao no co))=w3 at B3 P0 P1 P2 P3 B3b ⊢;obtain⟨k0,k1,k2,k3,f0,f1,f2,f3⟩:=z4_of P1.out;have B4:Hid (Bo w.heap.size (w3.setCell (α gB 1) (ι (ca+1))) Ar Ao cr co rl2 bk):=Bo_st B3.out P1.out (by decide) (by decide) (by decide) 1 _;have Q1:=κ (ξ (blk_st P1.out 1 (ι (ca+1))));have Q0:Hid (Blk (w3.setCell (α gB 1) (ι (ca+1))) gK 43 (vC sk (wn:Int) ra ta A1 n1 c1 A2 n2 c2 A3 n3 c3)):=far_st P0.out hBC.out _;have Q2:Hid (Blk (w3.setCell (α gB 1) (ι (ca+1))) gO 51 (vO (i:Int) os ox op oq on ot)):=far_st P2.out hBO.out _;have Q3:Hid (Blk (w3.setCell (α gB 1) (ι (ca+1))) gR 63 (vB 0 0 none 0 0 none 0 0)):=far_st P3.out hBR.out _;have B4b:Hid (Below w.heap.size w (w3.setCell (α gB 1) (ι (ca+1)))):=B3b.out.setCell (p:=(α gB 1)) hLB.out _
 go_upto_region 6 with fail
 clear k0 k1 k2 k3 f0 f1 f2 f3 P0 P1 P2 P3 B3 B3b;generalize (w3.setCell (α gB 1) (ι (ca+1)))=w4 at B4 Q0 Q1 Q2 Q3 B4b ⊢;obtain⟨k0,k1,k2,k3,f0,f1,f2,f3⟩:=z4_of Q1.out;obtain⟨o0,o1,o2,o3,o4,o5,o6⟩:=q7_of Q2.out;obtain⟨no1,hno1⟩:=ν (no+1);have HNO1:=κ hno1;clear hno1;have V0:=κ (β w4 (.cells (vE idv (i:Int) os ox op oq on ot oq 1 ep) 162));have V1:=own_below (by have:=B4.out.o;rw[←hno.out]at this;exact this) V0.out;have V2:Hid (Rd (w4.alloc (.cells (vE idv (i:Int) os ox op oq on ot oq 1 ep) 162)) ((w4.alloc (.cells (vE idv (i:Int) os ox op oq on ot oq 1 ep) 162))).heap.size (some (α w4.heap.size 0)) (enV ⟨idv,⟨(i:Int),os,ox,op,oq,on,ot⟩,oq,1,ep⟩)):=rd_new rfl;have V3:=κ (Nat.le_trans B4b.out.size V0.out.size);have V4:=κ (Blk.below' Q1.out V0.out)
 go_upto_region 7 with(at_builtin;go_loud (refine wpList_appRG (nm:=no1) V1 V2 HNO1.out rfl _ _ _ rfl i0 (.agg #[.int .i64 0,.int .i64 0,.int .i64 0,.bool false,.int .i64 0,.int .i64 0,.int .i64 0,.int .i64 0,.int .i64 0,.int .i64 0,.int .i64 0]) 88 Tryz.underlying61 hi hz0 hz1 hz2 rfl (by decide) rfl rfl (by simp[enV]) (by simp[enV,Value.oneCell']) (by unfold maxLen;omega) (by omega) V3.out ?_);intro A6 c6 w6 hown1 hgr1;have k9:=Blk_grown V4.out hgr1 (blk_own_ne V4.out V1.out (by decide));obtain⟨p0,p1,p2,p3,q0,q1,q2,q3⟩:=z4_of k9)
 have hnrp:0<nr:=by omega
 obtain⟨gr,hgr⟩:=own_at B4.out.r (by rw[←hnr.out];exact hnrp);subst hgr
 have X7:Hid (A7 w (w6.setCell (α gB 3) (.slice A6 no1 c6)) rl2 gr nr cr no1 A6 c6 bk.rows (bk.op++[⟨idv,⟨(i:Int),os,ox,op,oq,on,ot⟩,oq,1,ep⟩])):=by
  refine⟨?_,?_,B4.out.e,?_,B4.out.ap,?_⟩
  ·have h:=B4.out.r;rw[←hnr.out]at h;exact own_st (own_grown (own_below h V0.out) V1.out (by decide) hgr1) k9 (by decide) 3 _
  ·rw[ens_snoc];exact own_st hown1.out k9 (by decide) 3 _
  ·intro k hk;exact own_st (own_grown (own_below (B4.out.own k hk) V0.out) V1.out (by decide) hgr1) k9 (by decide) 3 _
  ·exact(grown_below (below_step B4b.out V0.out) V1.out hgr1 τ V3.out).setCell (p:=(α gB 3)) hLB.out _
 have KB:=κ (ξ (blk_st k9 3 (.slice A6 no1 c6)));have KC:Hid (Blk (w6.setCell (α gB 3) (.slice A6 no1 c6)) gK 43 (vC sk (wn:Int) ra ta A1 n1 c1 A2 n2 c2 A3 n3 c3)):=far_st (Blk_grown (Blk.below' Q0.out V0.out) hgr1 (blk_own_ne (Blk.below' Q0.out V0.out) V1.out (by decide))) hBC.out _;have KO:Hid (Blk (w6.setCell (α gB 3) (.slice A6 no1 c6)) gO 51 (vO (i:Int) os ox op oq on ot)):=far_st (Blk_grown (Blk.below' Q2.out V0.out) hgr1 (blk_own_ne (Blk.below' Q2.out V0.out) V1.out (by decide))) hBO.out _;have KR:Hid (Blk (w6.setCell (α gB 3) (.slice A6 no1 c6)) gR 63 (vB 0 0 none 0 0 none 0 0)):=far_st (Blk_grown (Blk.below' Q3.out V0.out) hgr1 (blk_own_ne (Blk.below' Q3.out V0.out) V1.out (by decide))) hBR.out _;have hil:Hid (i<rl2.length):=by show _<_;rw[Bo_len B4.out,←hnr.out];exact hir
 clear k0 k1 k2 k3 f0 f1 f2 f3 o0 o1 o2 o3 o4 o5 o6 p0 p1 p2 p3 q0 q1 q2 q3 k9 hgr1 hown1 V0 V1 V2 V3 V4 Q0 Q1 Q2 Q3 B4 B4b;generalize (w6.setCell (α gB 3) (.slice A6 no1 c6))=w7 at X7 KB KC KO KR ⊢;have HRW:=κ (gC_row X7.out.e hil.out);have HL:=κ (hf.out.nl i (by rw[←hnr.out];exact hir));have HC:=κ (hf.out.cnt i (by rw[←hnr.out];exact hir));obtain⟨_,_,_,_,hroom,hcell⟩:=own_room X7.out.r;have c0:=hcell (i*3) _ (by have:=rcs_get rl2 i 0 hil.out (by decide);exact this);have c1:=hcell (i*3+1) _ (by have:=rcs_get rl2 i 1 hil.out (by decide);exact this);have c2:=hcell (i*3+2) _ (by have:=rcs_get rl2 i 2 hil.out (by decide);exact this);have HOW:=κ (X7.out.own i hil.out);obtain⟨R,hR⟩:=ν (gC rl2 i);rw[←hR]at c0 c1 c2 HRW HOW;rw[←HRW.out]at HL HC;have HR:=κ hR;clear hR hroom hcell;obtain⟨An,cn,ns,sec,cnt⟩:=R;simp only[]at HL HC;obtain⟨nn,hnn⟩:=ν ns.length;have HNN:=κ hnn;have hnl:nn≤1000:=by rw[hnn];exact HL.out
 have HOW2:Hid (w7.drew.ownsRow w.heap.size 2 1 (.slice An nn cn) nn (ints ns)):=by rw[hnn];exact HOW.out
 have C0:w7.drew.cell? (α gr (i*3))=some (.slice An nn cn):=by rw[hnn];exact c0
 have C1:w7.drew.cell? (α gr (i*3+1))=some (ι sec):=c1;have C2:w7.drew.cell? (α gr (i*3+2))=some (ι cnt):=c2;clear c0 c1 c2 hnn;have HBS:Hid (w.heap.size≤w7.drew.heap.size):=X7.out.b.size;have US:=used_any w.heap.size An nn cn ns sec cnt (i:Int) os op oq on ot ox wn w7.drew HNN HOW2 HBS hnl HC hwn;obtain⟨U,hU⟩:=ν (usedF ⟨ns,sec,cnt⟩ on ot wn);rw[←hU]at US;have HU:=κ hU;clear hU;obtain⟨uns,us,uc⟩:=U;have KBd:=κ (ε KB.out);have KCd:=κ (ε KC.out);have KOd:=κ (ε KO.out);let T158:World→Prop:=fun w'=>w'.cell? (α gB 2)=some (.slice (some (α gr 0)) nr cr)∧w'.cell? (α gO 0)=some (ι (i:Int))∧w'.cell? (α gO 1)=some (ι os)∧w'.cell? (α gO 2)=some (.bool ox)∧w'.cell? (α gO 3)=some (ι op)∧w'.cell? (α gO 4)=some (ι oq)∧w'.cell? (α gO 5)=some (ι on)∧w'.cell? (α gO 6)=some (ι ot)∧w'.cell? (α gK 1)=some (ι (wn:Int))∧w'.cell? (α gr (i*3))=some (.slice An nn cn)∧w'.cell? (α gr (i*3+1))=some (ι sec)∧w'.cell? (α gr (i*3+2))=some (ι cnt)
 have HT:Hid (T158 (w7.drew)):=⟨KBd.out.cell 2,KOd.out.cell 0,KOd.out.cell 1,KOd.out.cell 2,KOd.out.cell 3,KOd.out.cell 4,KOd.out.cell 5,KOd.out.cell 6,KCd.out.cell 1,C0,C1,C2⟩;clear C0 C1 C2;refine Ω T158 [15] ?_;refine jA 0 HT.out ?_;refine jB 1 HT.out ?_;refine jA 2 HT.out ?_;refine jB 3 HT.out ?_;refine jA 4 HT.out ?_;refine jB 5 HT.out ?_;refine jA 6 HT.out ?_;refine jB 7 HT.out ?_;refine jA 8 HT.out ?_;refine jB 9 HT.out ?_;refine jB 10 HT.out ?_;refine jA 11 HT.out ?_;refine jB 12 HT.out ?_;refine jN 13 fun K' hK=>?_
 go_simp;refine US.mono ?_;rintro e w8 ⟨A8,c8,he,hri8,hf8,hp8,hg8⟩;dsimp only at he;subst he;have hnB:=own_ne_A (w8:=w8) HOW2.out X7.out.r (by decide) hg8;have hgA:w7.drew.grownBy w8 (Value.slice An nn cn).ownBlock:=by rw[ownBlock_len];exact hg8
 have KB8:=κ (Blk_grown KBd.out hgA (blk_own_ne KBd.out HOW2.out (by decide)));have KC8:=κ (Blk_grown KCd.out hgA (blk_own_ne KCd.out HOW2.out (by decide)));have KO8:=κ (Blk_grown KOd.out hgA (blk_own_ne KOd.out HOW2.out (by decide)));have KR8:=κ (Blk_grown (show Blk w7.drew gR 63 (vB 0 0 none 0 0 none 0 0) from KR.out) hgA (blk_own_ne (show Blk w7.drew gR 63 (vB 0 0 none 0 0 none 0 0) from KR.out) HOW2.out (by decide)));have hBr:Hid (gB≠gr):=fun e=>blk_own_ne KB8.out hnB (by decide) (by rw[e];rfl)
 have hRr:Hid (gR≠gr):=fun e=>blk_own_ne KR8.out hnB (by decide) (by rw[e];rfl)
 obtain⟨_,_,_,_,hroom,hcell⟩:=own_room hnB;have d0:=hcell (i*3) _ (by have:=rcs_get rl2 i 0 hil.out (by decide);rw[←HR.out]at this;exact this);have d1:=hcell (i*3+1) _ (by have:=rcs_get rl2 i 1 hil.out (by decide);rw[←HR.out]at this;exact this);have d2:=hcell (i*3+2) _ (by have:=rcs_get rl2 i 2 hil.out (by decide);rw[←HR.out]at this;exact this);have hnc:=(own_room hnB).2.2.1;have g0:=(hroom (i*3) (by omega)).2;have g1:=(hroom (i*3+1) (by omega)).2;have g2:=(hroom (i*3+2) (by omega)).2;have HT2:Hid (T158 w8):=⟨KB8.out.cell 2,KO8.out.cell 0,KO8.out.cell 1,KO8.out.cell 2,KO8.out.cell 3,KO8.out.cell 4,KO8.out.cell 5,KO8.out.cell 6,KC8.out.cell 1,(by rw[HNN.out];exact d0),d1,d2⟩;have X9:=κ (A7.used (w8:=w8) (show A7 w w7.drew rl2 gr nr cr no1 A6 c6 bk.rows (bk.op++[⟨idv,⟨(i:Int),os,ox,op,oq,on,ot⟩,oq,1,ep⟩]) from⟨X7.out.r,X7.out.o,X7.out.e,X7.out.own,X7.out.ap,X7.out.b.drew⟩) hil.out (show Blk w7.drew gR 63 (vB 0 0 none 0 0 none 0 0) from KR.out) (by rw[←HR.out];exact hg8) hri8 hf8 (by rw[←HR.out];exact hp8) c8 us uc);clear hnB hgA hroom hcell hri8 hf8 hp8 hg8 KBd KCd KOd KC8 KO8
 go_wp2_with fail
 refine hK.out _ _ HT2.out ?_;clear hK K';refine jP ?_;refine jA 14 HT2.out ?_;have D0:=ω (α gr (i*3)) (.slice A8 uns.length c8) d1;have D1:=ω (α gr (i*3+1)) (ι us) (ω (α gr (i*3)) (.slice A8 uns.length c8) d2);have G0:=φ (α gr (i*3)) (.slice A8 uns.length c8) g1;have G1:=φ (α gr (i*3+1)) (ι us) (φ (α gr (i*3)) (.slice A8 uns.length c8) g2);refine jV 15 fun K' hK=>?_
 go_simp;refine hK.out _ _ ?_;clear hK K';refine jP ?_;refine Δ ?_;have KB9:Hid (Blk (((w8.setCell (α gr (i*3)) (.slice A8 uns.length c8)).setCell (α gr (i*3+1)) (ι us)).setCell (α gr (i*3+2)) (ι uc)) gB 63 (vB sh (ca+1) (some (α gr 0)) nr cr A6 no1 c6)):=far_st (far_st (far_st KB8.out hBr.out _) hBr.out _) hBr.out _;have KR9:Hid (Blk (((w8.setCell (α gr (i*3)) (.slice A8 uns.length c8)).setCell (α gr (i*3+1)) (ι us)).setCell (α gr (i*3+2)) (ι uc)) gR 63 (vB 0 0 none 0 0 none 0 0)):=far_st (far_st (far_st KR8.out hRr.out _) hRr.out _) hRr.out _;clear D0 D1 G0 G1 d0 d1 d2 g0 g1 g2 HT HT2 KB8 KR8 X7 KB KC KO KR;generalize (((w8.setCell (α gr (i*3)) (.slice A8 uns.length c8)).setCell (α gr (i*3+1)) (ι us)).setCell (α gr (i*3+2)) (ι uc))=w9 at X9 KB9 KR9 ⊢;have F3:Blk (st4 w9 gR (ι sh) (ι (ca+1)) (.slice (some (α gr 0)) nr cr) (.slice A6 no1 c6)) gR 63 (vB sh (ca+1) (some (α gr 0)) nr cr A6 no1 c6):=st4_blk KR9.out
 have hfin:MadeB2 (addF sk wn bk ⟨(i:Int),os,ox,op,oq,on,ot⟩ ep) (bk.sh+sk*bk.ca) w (.returned (.tuple #[.agg (vB sh (ca+1) (some (α gr 0)) nr cr A6 no1 c6),ι idv])) (st4 w9 gR (ι sh) (ι (ca+1)) (.slice (some (α gr 0)) nr cr) (.slice A6 no1 c6)):=by
  obtain⟨y1,y2,y3⟩:=A9.fin X9.out KR9.out hLR.out (.int .i64 sh) (.int .i64 (ca+1)) (.slice (some ⟨gr,0,none⟩) nr cr) (.slice A6 no1 c6) sh (ca+1)
  have hADD:addF sk wn bk ⟨(i:Int),os,ox,op,oq,on,ot⟩ ep=⟨sh,ca+1,bk.rows.set i ⟨uns,us,uc⟩,bk.op++[⟨idv,⟨(i:Int),os,ox,op,oq,on,ot⟩,oq,1,ep⟩]⟩:=by
   unfold addF;have h1:=HRW.out.symm;simp only[Int.toNat_natCast,h1];rw[←HU.out,HID.out,hsh.out.1,hsh.out.2]
  rw[hADD];refine⟨some (α gr 0),A6,cr,c6,_,?_,y1,y2,y3⟩;rw[HID.out,hsh.out.1,hsh.out.2];unfold bkA;simp[HNO1.out,hno.out,hnr.out]
 have HF:=κ hfin;clear hfin X9;obtain⟨k0,k1,k2,k3⟩:=q4_of KB9.out;obtain⟨z0,z1,z2,z3,f0,f1,f2,f3⟩:=z4_of KR9.out
 go_wp2_with fail
 obtain⟨d0,d1,d2,d3⟩:=q4_of F3;clear F3;unfold st4 at d0 d1 d2 d3 HF;exact bodyPost_ret (v:= .tuple #[.agg #[ι sh,ι (ca+1),.slice (some (α gr 0)) nr cr,.slice A6 no1 c6],ι idv]) (by simp[results,Tryz.results157,go_sem,d0,d1,d2,d3]) rfl HF.out
end Bka
namespace Gly
open Go Lax
section
variable {P : Program} {ops : Array Oper} {Q : Exit → Act → World → Prop} {md : Region.Mode} {T : World → Prop} {st : List Nat}
def far (md : Region.Mode) (ops : Array Oper) (i : Nat) : Nat → Nat → Bool
  | 0, _ => false
  | n + 1, j => match ops[j]? with
    | some o => o.after.any fun e => Region.binds md e && (e.on == i || far md ops i n e.on)
    | none => false
def farS (md : Region.Mode) (ops : Array Oper) (st : List Nat) (i : Nat) : Bool := st.all fun j => far md ops i 12 j
def Shl (md : Region.Mode) (ops : Array Oper) (up : Array Bool) : Prop := ∀ j o, ops[j]? = some o → up.getD j false = true → ∀ e ∈ o.after, Region.binds md e = true → up.getD e.on false = true
def shlB (md : Region.Mode) (ops : Array Oper) (up : Array Bool) : Bool := (List.range ops.size).all fun j => match ops[j]? with
  | some o => !(up.getD j false) || o.after.all fun e => !(Region.binds md e) || up.getD e.on false
  | none => true
theorem shl_of {up : Array Bool} (h : shlB md ops up = true) : Shl md ops up := by
  intro j o ho hu e he hb
  unfold shlB at h
  rw [List.all_eq_true] at h
  have h1 := h j (List.mem_range.2 (Array.getElem?_eq_some_iff.1 ho).1)
  rw [ho] at h1
  simp only [hu, Bool.not_true, Bool.false_or, Array.all_eq_true, Bool.or_eq_true] at h1
  obtain ⟨n, hn, rfl⟩ := Array.mem_iff_getElem.1 he
  have := h1 n hn
  rw [hb] at this
  simpa using this
theorem far_up {up : Array Bool} {i : Nat} (hc : Shl md ops up) : ∀ n j o, ops[j]? = some o → far md ops i n j = true → (∀ e ∈ o.after, Region.binds md e = true → up.getD e.on false = true) → up.getD i false = true := by
  intro n
  induction n with
  | zero => intro j o _ h; cases h
  | succ n ih =>
    intro j o ho h hall
    unfold far at h
    rw [ho] at h
    simp only [Array.any_eq_true, Bool.and_eq_true, Bool.or_eq_true, beq_iff_eq] at h
    obtain ⟨m, hm, hb, h | h⟩ := h
    · rw [← h]; exact hall _ (Array.getElem_mem hm) hb
    · have h1 := hall _ (Array.getElem_mem hm) hb
      cases ho2 : ops[(o.after[m]).on]? with
      | none => cases n with
        | zero => cases h
        | succ n => unfold far at h; rw [ho2] at h; cases h
      | some o2 => exact ih _ o2 ho2 h fun e he hb2 => hc _ o2 ho2 h1 e he hb2
theorem shl_set {up : Array Bool} {j : Nat} {o : Oper} (hc : Shl md ops up) (ho : ops[j]? = some o) (hall : ∀ e ∈ o.after, Region.binds md e = true → up.getD e.on false = true) : Shl md ops (up.setIfInBounds j true) := by
  have mono : ∀ n, up.getD n false = true → (up.setIfInBounds j true).getD n false = true := by
    intro n hn
    by_cases e : j = n
    · subst e
      by_cases hl : j < up.size
      · simp [hl]
      · simp [hl] at hn
    · rw [getD_set_ne false e]; exact hn
  intro k ok hok hk e he hb
  by_cases h : j = k
  · subst h
    rw [ho] at hok; cases hok
    exact mono _ (hall e he hb)
  · rw [getD_set_ne false h] at hk
    exact mono _ (hc k ok hok hk e he hb)
theorem wpL_load2 {i : Nat} {oi : Oper} {v : Value} (hi : ops[i]? = some oi) (hs : Region.noSelect ops = true) (hQ : ∀ c a w, Q (.panic c) (a.put oi.dst v) w → Q (.panic c) a w) (hns : st.contains i = false) (hlt : farS md ops st i = true) :
    ∀ (k : Nat) (up : Array Bool) (a : Act) (w : World), Region.free md ops up i = true → (Region.ready md ops up).contains i = true → Shl md ops up → YieldsIf P ops T oi v a → clean st up = true → T w →
      wpL P md ops Q T st k (up.setIfInBounds i true) (a.put oi.dst v) w → wpL P md ops Q T st (k + 1) up a w := by
  suffices H0 : ∀ (k : Nat) (up : Array Bool) (a : Act) (w : World),
      (∀ j oj, ops[j]? = some oj → j ≠ i → up.getD j true = false → (∀ e ∈ oj.after, Region.binds md e = true → e.on ≠ i) → oi.apart ops oj = true) →
      i ∈ Region.ready md ops up → Shl md ops up → YieldsIf P ops T oi v a → clean st up = true → T w →
      wpL P md ops Q T st k (up.setIfInBounds i true) (a.put oi.dst v) w → wpL P md ops Q T st (k + 1) up a w by
    intro k up a w hf hr
    exact H0 k up a w (Region.free_spec hi hf) (by simpa using hr)
  intro k
  induction k with
  | zero =>
    intro up a w _ hr _ hy hc hT H
    refine ⟨fun h => (by rw [h] at hr; cases hr), fun j hj => ?_⟩
    by_cases hji : j = i
    · subst hji; exact hy.wpOp hi hT ⟨fun _ => hT, H⟩
    · have := ready_mono hj hji
      rw [H.1] at this
      cases this
  | succ k ih =>
    intro up a w hfree hr hsh hy hc hT H
    refine ⟨fun h => (by rw [h] at hr; cases hr), fun j hj => ?_⟩
    by_cases hji : j = i
    · subst hji; exact hy.wpOp hi hT ⟨fun _ => hT, H⟩
    · have h1 := H.2 j (ready_mono hj hji)
      obtain ⟨hjun, oj, hoj, hall⟩ := mem_ready.1 hj
      have hall' : ∀ e ∈ oj.after, Region.binds md e = true → up.getD e.on false = true := fun e he hb => by
        have a1 := hall e he hb
        rcases Nat.lt_or_ge e.on up.size with h' | h'
        · simp [h'] at a1 ⊢; exact a1
        · simp [Array.getElem?_eq_none h'] at a1
      have hiun : up.getD i false ≠ true := fun a1 => by
        have a0 := (mem_ready.1 hr).1
        rcases Nat.lt_or_ge i up.size with h' | h'
        · simp [h'] at a0 a1; rw [a0] at a1; cases a1
        · simp [Array.getElem?_eq_none h'] at a1
      have hno : ∀ e ∈ oj.after, Region.binds md e = true → e.on ≠ i := fun e he hb heq => hiun (by rw [← heq]; exact hall' e he hb)
      have hjl : st.contains j = false := by
        cases hcj : st.contains j with
        | false => rfl
        | true =>
          unfold farS at hlt
          rw [List.all_eq_true] at hlt
          exact absurd (far_up hsh _ _ _ hoj (hlt j (by simpa using hcj)) hall') hiun
      have hcj := clean_on hjl hc
      have hsel := Region.noSelect_spec hs
      have h2 := wpOp_putIf hoj (hfree j oj hoj hji hjun hno) (fun cs b => hsel i oi cs b hi) (fun cs b => hsel j oj cs b hoj) hQ hy h1
      have hfree' : ∀ n on_, ops[n]? = some on_ → n ≠ i → (up.setIfInBounds j true).getD n true = false →
          (∀ e ∈ on_.after, Region.binds md e = true → e.on ≠ i) → oi.apart ops on_ = true := fun n on_ hn hni hun hnw => by
        refine hfree n on_ hn hni ?_ hnw
        by_cases hjn : j = n
        · subst hjn; exact hjun
        · rw [getD_set_ne true hjn] at hun; exact hun
      have hsw : (up.setIfInBounds i true).setIfInBounds j true = (up.setIfInBounds j true).setIfInBounds i true := Array.setIfInBounds_comm _ _ (Ne.symm hji)
      refine wpOp_mono (fun a' w' h3 => ⟨fun _ => h3.2.1 (by rw [hsw]; exact clean_on hns hcj), ih (up.setIfInBounds j true) a' w' hfree' (ready_mono hr (Ne.symm hji)) (shl_set hsh hoj hall') h3.1 hcj (h3.2.1 (by rw [hsw]; exact clean_on hns hcj)) ?_⟩) h2
      rw [← hsw]
      exact h3.2.2
end
section
variable {P : Program} {ops : Array Oper} {Q : Exit → Act → World → Prop} {md : Region.Mode} {T : World → Prop} {st : List Nat} {i k : Nat} {oi : Oper} {v : Value} {up : Array Bool} {a : Act} {w : World}
theorem iLf (_x : Ix i) (hT : T w) (hy : ∀ w', T w' → (execOp a.eval oi).run P w' = .ok (.value v) w') (hg : wpL P md ops Q T st k (up.setIfInBounds i true) (a.put oi.dst v) w) (hi : ops[i]? = some oi := by rfl) (hw : Region.wanted oi (yielded ops a.tmps) = true := by rfl) (hs : Region.noSelect ops = true := by kernel_rfl) (hQ : ∀ c a w, Q (.panic c) (a.put oi.dst v) w → Q (.panic c) a w := by exact fun _ _ _ h => h) (hns : st.contains i = false := by kernel_rfl) (hlt : farS md ops st i = true := by kernel_rfl) (hb : shlB md ops up = true := by kernel_rfl) (hf : Region.free md ops up i = true := by kernel_rfl) (hr : (Region.ready md ops up).contains i = true := by kernel_rfl) (hc : clean st up = true := by kernel_rfl) :
    wpL P md ops Q T st (k + 1) up a w := wpL_load2 hi hs hQ hns hlt _ _ _ _ hf hr (shl_of hb) (.inl ⟨hw, hy⟩) hc hT hg
end
theorem jF (i : Nat) {R X Z : Prop} (hz : Z) (kk : R) (h : Ix i → Z → R → X := by
  intro hi hZ hk
  refine iLf hi (v := ?_) hZ ?_ ?_
  rotate_left
  · intro w' hS
    (try dsimp only at hS)
    (repeat obtain ⟨x, hS⟩ := hS)
    go_simp
    try with_reducible rfl
  (try simp only [Act.put, List.getElem_toArray, List.getElem_cons_succ, List.getElem_cons_zero, List.setIfInBounds_toArray, List.set_cons_zero, List.set_cons_succ])
  exact hk) : X := h ⟨trivial⟩ hz kk
end Gly
end Go.Proofs.YtaeddnjjeholgaaGreat
