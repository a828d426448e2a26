/- Texts side by side. -/
import Derived.Test.YtcccdikhfgpamaaGreatUfaj
set_option linter.unusedVariables false
set_option linter.unusedSimpArgs false
set_option maxRecDepth 100000
set_option maxHeartbeats 16000000
namespace Go.Proofs.YtcccdikhfgpamaaGreat
open Kap Abv Lax Go.ChangeShapes Go.WideShapes Go.ChangeAt Go.RowKit Mem Tre Ref3 Law3 CrdB CrdC Bkp Bks Bkf Stk Lat
namespace Rbc
open Crd Rr4 Bkg Bcl Dlk Apt Bko Bku Bka Bkc
theorem infoRR:(Tryz.prog.info? 215).map (fun i=>(i.zero,i.size,i.bytes))=some (some (.agg #[.slice none 0 0,.int .i64 0,.int .i64 0]),3,40):=by kernel_rfl
theorem infoRE:(Tryz.prog.info? 125).map (fun i=>(i.zero,i.size,i.bytes))=some (some (.agg #[.int .i64 0,.int .i64 0,.int .i64 0,.bool false,.int .i64 0,.int .i64 0,.int .i64 0,.int .i64 0,.int .i64 0,.int .i64 0,.int .i64 0]),11,88):=by kernel_rfl
theorem wpL_two{P:Program}{ops:Array Oper}{Q:Exit→Act→World→Prop}{md:Region.Mode}{T:World→Prop}{st:List Nat}{m n k:Nat}{om on:Oper}{up:Array Bool}{a:Act}{w:World}(hr:Region.ready md ops up=[m,n])(hm:ops[m]? =some om)(hn:ops[n]? =some on)
  (h1: ∀K:Act→World→Prop,Shut (∀a w,T w→wpL P md ops Q T st k (up.setIfInBounds m true) a w→K a w)→if Region.wanted om (yielded ops a.tmps)=true then Oper.wp P om a w K Q else K (a.put om.dst undef) w)
  (h2: ∀K:Act→World→Prop,Shut (∀a w,T w→wpL P md ops Q T st k (up.setIfInBounds n true) a w→K a w)→if Region.wanted on (yielded ops a.tmps)=true then Oper.wp P on a w K Q else K (a.put on.dst undef) w):
  wpL P md ops Q T st (k+1) up a w:=by
 refine⟨fun e=>(by rw[hr]at e;cases e),?_⟩;rw[hr];intro j f;simp only[List.mem_cons,List.not_mem_nil,or_false]at f;rcases f with rfl|rfl
 ·exact wpOp_step hm (fun K b=>h1 K (fun a w c d=>b a w ⟨fun _=>c,d⟩))
 ·exact wpOp_step hn (fun K b=>h2 K (fun a w c d=>b a w ⟨fun _=>c,d⟩))
structure Co(base:Nat)(w:World)(A C:Option Addr)(c d:Nat)(rl:List Rc)(b:Bk):Prop where
 r:w.ownsRow base 215 3 (.slice A b.rows.length c) b.rows.length (rcs rl)
 o:w.ownsRow base 125 11 (.slice C b.op.length d) b.op.length (ens b.op)
 e:rl.map Rc.r=b.rows
 n: ∀i,i<rl.length→Ris w w.heap.size (gC rl i).A (gC rl i).r.ns
def MadeCp(rl:List Rc)(b:Bk)(w:World)(e:Ending)(w':World):Prop:=
 ∃A C c d,e= .returned (bkA A C c d b)∧Co w.heap.size w' A C c d rl b∧Below w.heap.size w w'
theorem copied_any(sh ca:Int)(A C:Option Addr)(nr no c d:Nat)(rl:List Rc)(bk:Bk)(w:World)(hsh:Hid (sh=bk.sh∧ca=bk.ca))(hnr:Hid (nr=bk.rows.length))(hno:Hid (no=bk.op.length))(hm:Hid (Bm w A C rl bk))(l1:nr≤1000)(l2:no≤1000):
  Calls Tryz.prog 103 #[.agg #[.int .i64 sh,.int .i64 ca,.slice A nr c,.slice C no d]] w (MadeCp rl bk w):=by
 obtain⟨i1,aK,aL,aM,aN⟩:=info_parts infoRR;obtain⟨i2,aO,aP,aQ,aR⟩:=info_parts infoRE;have b0:=κ (γ w (.cells (vB sh ca A nr c C no d) 122) (.cells (vB 0 0 none 0 0 none 0 0) 122));have K0:=κ ((Blk.fresh w 122 (vB sh ca A nr c C no d)).alloc (.cells (vB 0 0 none 0 0 none 0 0) 122));have R0:=κ (δ (w.alloc (.cells (vB sh ca A nr c C no d) 122)) 122 (vB 0 0 none 0 0 none 0 0) (w.heap.size+1))
 go_enter Tryz.func103,Tryz.ntmps103
 go_upto_region 1 with fail
 obtain⟨gB,aS⟩:=ν w.heap.size;obtain⟨gZ,aT⟩:=ν (w.heap.size+1);have K1:=κ (ζ aS K0.o);have R1:=κ (ζ aT R0.o);have aU:Hid (w.heap.size≤gZ):=by show _≤_;omega
 simp only[←aT];simp only[←aS];clear aS aT K0 R0;generalize ((w.alloc (.cells (vB sh ca A nr c C no d) 122)).alloc (.cells (vB 0 0 none 0 0 none 0 0) 122))=w0 at b0 K1 R1 ⊢;have aV:Hid ((rcs rl).length=nr*3):=by show _=_;rw[rcs_len,hm.o.len,hnr.o]
 have aW:Hid ((ens bk.op).length=no*11):=by show _=_;rw[ens_len,hno.o]
 have HR:Hid (∀W,Below w.heap.size w W→Rd W W.heap.size A (rcs rl)):=fun W hb=>Rd.below' hm.o.r hb hb.size
 have HC:Hid (∀W,Below w.heap.size w W→Rd W W.heap.size C (ens bk.op)):=fun W hb=>Rd.below' hm.o.o hb hb.size
 have ad:=κ (ε K1.o);have aX:=κ (ε R1.o);have ax:=κ (Below.drew b0.o);let K:World→Prop:=fun w'=>w'.cell? (α gB 0)=some (ι sh)∧w'.cell? (α gB 1)=some (ι ca)∧w'.cell? (α gB 2)=some (.slice A nr c)∧w'.cell? (α gB 3)=some (.slice C no d)
 have HT:Hid (K (w0.drew)):=⟨ad.o.cell 0,ad.o.cell 1,ad.o.cell 2,ad.o.cell 3⟩;clear K1 R1 b0;refine Ω K [13] ?_;refine jA 0 HT.o ?_;refine jB 1 HT.o ?_;refine jA 2 HT.o ?_;refine jB 3 HT.o ?_;refine jA 5 HT.o ?_;refine jB 6 HT.o ?_;refine jA 9 HT.o ?_;refine jB 10 HT.o ?_;refine wpL_two (m:=4) (n:=8) (by kernel_rfl) rfl rfl ?_ ?_
 ·intro L h;have ay:=β w0.drew (.cells #[] 215);have ae:=κ (Blk.below' ad.o ay);have aY:=κ (Blk.below' aX.o ay);have af:=κ (CrdB.below_step ax.o ay);have R:Hid (World.ownsRow (w0.drew.alloc (.cells #[] 215)) w.heap.size 215 3 (.slice (some (α w0.heap.size 0)) 0 0) 0 []):=own_empty (blk_hd (by simp)) (by have h8:=ax.o.size;simpa using h8);have bd:Hid (K (w0.drew.alloc (.cells #[] 215))):=⟨ae.o.cell 0,ae.o.cell 1,ae.o.cell 2,ae.o.cell 3⟩;clear ay;go_simp;refine h.out _ _ bd.o ?_;clear h L;refine jP ?_;refine wpL_two (m:=7) (n:=8) (by kernel_rfl) rfl rfl ?_ ?_
  ·intro L h;have be:=κ (HR.o _ af.o);refine step_appG (nm:=nr) R be (by simp) rfl _ _ _ rfl i1 (.agg #[.slice none 0 0,ι 0,ι 0]) 40 Tryz.underlying119 aK aL aM aN rfl (by decide) rfl rfl aV.o (rcs_one rl) (by unfold maxLen;omega) (by omega) af.o.size ?_;intro s t ag aZ az;have ah:=κ (blk_own_grown ae.o R.o (by decide) az);have bf:=κ (blk_own_grown aY.o R.o (by decide) az);have a0:=κ (grown_below af.o R.o az τ af.o.size);have bg:=κ aZ.o;have bh:Hid (K ag):=⟨ah.o.cell 0,ah.o.cell 1,ah.o.cell 2,ah.o.cell 3⟩;clear az aZ;refine h.out _ _ bh.o ?_;clear h L;refine jP ?_;have ai:=β ag (.cells #[] 125);have aj:=κ (Blk.below' ah.o ai);have bi:=κ (Blk.below' bf.o ai);have aA:=κ (CrdB.below_step a0.o ai);have S:Hid (World.ownsRow (ag.alloc (.cells #[] 125)) w.heap.size 125 11 (.slice (some (α ag.heap.size 0)) 0 0) 0 []):=own_empty (blk_hd (by simp)) (by have h8:=a0.o.size;simpa using h8);have bj:=own_below bg ai;have bl:Hid (K (ag.alloc (.cells #[] 125))):=⟨aj.o.cell 0,aj.o.cell 1,aj.o.cell 2,aj.o.cell 3⟩;clear ai;refine jN 8 fun L h=>?_
   go_simp;refine h.out _ _ bl.o ?_;clear h L;refine jP ?_;have bn:=κ (HC.o _ aA.o);refine jN 11 fun L h=>?_
   refine step_appG (nm:=no) S bn (by simp) rfl _ _ _ rfl i2 (.agg #[ι 0,ι 0,ι 0,.bool false,ι 0,ι 0,ι 0,ι 0,ι 0,ι 0,ι 0]) 88 Tryz.underlying120 aO aP aQ aR rfl (by decide) rfl rfl aW.o (ens_one bk.op) (by unfold maxLen;omega) (by omega) aA.o.size ?_;intro j k aB a1 z;have aC:=κ (blk_own_grown aj.o S.o (by decide) z);have T:=κ (blk_own_grown bi.o S.o (by decide) z);have bo:=κ (grown_below aA.o S.o z τ aA.o.size);have bp:=κ a1.o;have bq:=κ (own_grown bj.o S.o (by decide) z);have a2:Hid (K aB):=⟨aC.o.cell 0,aC.o.cell 1,aC.o.cell 2,aC.o.cell 3⟩;clear z a1;refine h.out _ _ a2.o ?_;clear h L;refine jP ?_;refine jA 12 a2.o ?_;have F3:Blk (st4 aB gZ (ι sh) (ι ca) (.slice s nr t) (.slice j no k)) gZ 122 (vB sh ca s nr t j no k):=st4_blk T.o;have BF:Below w.heap.size w (st4 aB gZ (ι sh) (ι ca) (.slice s nr t) (.slice j no k)):=st4_below bo.o aU.o;have aa:=own_st4 bq.o T.o (by decide) (v0:= ι sh) (v1:= ι ca) (v2:= .slice s nr t) (v3:= .slice j no k);have ab:=own_st4 bp.o T.o (by decide) (v0:= ι sh) (v1:= ι ca) (v2:= .slice s nr t) (v3:= .slice j no k)
   have O:MadeCp rl bk w (.returned (.agg (vB sh ca s nr t j no k))) (st4 aB gZ (ι sh) (ι ca) (.slice s nr t) (.slice j no k)):=by
    refine⟨s,j,t,k,?_,⟨?_,?_,hm.o.e,fun i hi=>Rd.below' (hm.o.n i hi) BF BF.size⟩,BF⟩
    ·unfold bkA;rw[←hnr.o,←hno.o,←hsh.o.1,←hsh.o.2]
    ·rw[←hnr.o];simpa using aa
    ·rw[←hno.o];simpa using ab
   have HF:=κ O;clear O aa ab BF;obtain⟨z0,z1,z2,z3,g0,g1,g2,g3⟩:=z4_of T.o;have ac:=T.o;have E:=ξ (blk_st ac 0 (ι sh));have F:=ξ (blk_st E 1 (ι ca));have U:=ξ (blk_st F 2 (.slice s nr t));have ak:=E.cell 1;have al:=F.cell 2;have am:=U.cell 3;have a3:=E.thaw 1;have a4:=F.thaw 2;have a5:=U.thaw 3;simp only[List.getElem?_toArray,List.getElem?_cons_succ,List.getElem?_cons_zero]at ak al am;clear ac E F U;refine jV 13 fun L h=>?_
   go_simp;refine h.out _ _ ?_;clear h L;refine jP ?_;refine Δ ?_
   go_wp2_with fail
   obtain⟨e0,e1,e2,e3⟩:=q4_of F3;clear F3;unfold st4 at e0 e1 e2 e3 HF;exact bodyPost_ret (v:= .agg #[ι sh,ι ca,.slice s nr t,.slice j no k]) (by simp[results,Tryz.results103,go_sem,e0,e1,e2,e3]) rfl HF.o
  ·intro L h;have an:=β (w0.drew.alloc (.cells #[] 215)) (.cells #[] 125);have ao:=κ (Blk.below' ae.o an);have br:=κ (Blk.below' aY.o an);have aD:=κ (CrdB.below_step af.o an);have bs:Hid (World.ownsRow ((w0.drew.alloc (.cells #[] 215)).alloc (.cells #[] 125)) w.heap.size 125 11 (.slice (some (α (w0.heap.size+1) 0)) 0 0) 0 []):=own_empty (blk_hd (by simp)) (by have h8:=af.o.size;simpa using h8);have V:=own_below R an;have bt:Hid (K ((w0.drew.alloc (.cells #[] 215)).alloc (.cells #[] 125))):=⟨ao.o.cell 0,ao.o.cell 1,ao.o.cell 2,ao.o.cell 3⟩;clear an;go_simp;refine h.out _ _ bt.o ?_;clear h L;refine jP ?_;have bu:=κ (HR.o _ aD.o);refine jN 7 fun L h=>?_
   refine step_appG (nm:=nr) V bu (by simp) rfl _ _ _ rfl i1 (.agg #[.slice none 0 0,ι 0,ι 0]) 40 Tryz.underlying119 aK aL aM aN rfl (by decide) rfl rfl aV.o (rcs_one rl) (by unfold maxLen;omega) (by omega) aD.o.size ?_;intro x y bv a6 X;have ap:=κ (blk_own_grown ao.o V.o (by decide) X);have bw:=κ (blk_own_grown br.o V.o (by decide) X);have aE:=κ (grown_below aD.o V.o X τ aD.o.size);have bx:=κ a6.o;have Y:=κ (own_grown bs.o V.o (by decide) X);have bz:Hid (K bv):=⟨ap.o.cell 0,ap.o.cell 1,ap.o.cell 2,ap.o.cell 3⟩;clear X a6;refine h.out _ _ bz.o ?_;clear h L;refine jP ?_;have bA:=κ (HC.o _ aE.o);refine jN 11 fun L h=>?_
   refine step_appG (nm:=no) Y bA (by simp) rfl _ _ _ rfl i2 (.agg #[ι 0,ι 0,ι 0,.bool false,ι 0,ι 0,ι 0,ι 0,ι 0,ι 0,ι 0]) 88 Tryz.underlying120 aO aP aQ aR rfl (by decide) rfl rfl aW.o (ens_one bk.op) (by unfold maxLen;omega) (by omega) aE.o.size ?_;intro l p aF a7 G;have aG:=κ (blk_own_grown ap.o Y.o (by decide) G);have Z:=κ (blk_own_grown bw.o Y.o (by decide) G);have bB:=κ (grown_below aE.o Y.o G τ aE.o.size);have bC:=κ a7.o;have bD:=κ (own_grown bx.o Y.o (by decide) G);have a8:Hid (K aF):=⟨aG.o.cell 0,aG.o.cell 1,aG.o.cell 2,aG.o.cell 3⟩;clear G a7;refine h.out _ _ a8.o ?_;clear h L;refine jP ?_;refine jA 12 a8.o ?_;have F3:Blk (st4 aF gZ (ι sh) (ι ca) (.slice x nr y) (.slice l no p)) gZ 122 (vB sh ca x nr y l no p):=st4_blk Z.o;have BF:Below w.heap.size w (st4 aF gZ (ι sh) (ι ca) (.slice x nr y) (.slice l no p)):=st4_below bB.o aU.o;have aa:=own_st4 bD.o Z.o (by decide) (v0:= ι sh) (v1:= ι ca) (v2:= .slice x nr y) (v3:= .slice l no p);have ab:=own_st4 bC.o Z.o (by decide) (v0:= ι sh) (v1:= ι ca) (v2:= .slice x nr y) (v3:= .slice l no p)
   have O:MadeCp rl bk w (.returned (.agg (vB sh ca x nr y l no p))) (st4 aF gZ (ι sh) (ι ca) (.slice x nr y) (.slice l no p)):=by
    refine⟨x,l,y,p,?_,⟨?_,?_,hm.o.e,fun i hi=>Rd.below' (hm.o.n i hi) BF BF.size⟩,BF⟩
    ·unfold bkA;rw[←hnr.o,←hno.o,←hsh.o.1,←hsh.o.2]
    ·rw[←hnr.o];simpa using aa
    ·rw[←hno.o];simpa using ab
   have HF:=κ O;clear O aa ab BF;obtain⟨z0,z1,z2,z3,g0,g1,g2,g3⟩:=z4_of Z.o;have ac:=Z.o;have E:=ξ (blk_st ac 0 (ι sh));have F:=ξ (blk_st E 1 (ι ca));have U:=ξ (blk_st F 2 (.slice x nr y));have ak:=E.cell 1;have al:=F.cell 2;have am:=U.cell 3;have a3:=E.thaw 1;have a4:=F.thaw 2;have a5:=U.thaw 3;simp only[List.getElem?_toArray,List.getElem?_cons_succ,List.getElem?_cons_zero]at ak al am;clear ac E F U;refine jV 13 fun L h=>?_
   go_simp;refine h.out _ _ ?_;clear h L;refine jP ?_;refine Δ ?_
   go_wp2_with fail
   obtain⟨e0,e1,e2,e3⟩:=q4_of F3;clear F3;unfold st4 at e0 e1 e2 e3 HF;exact bodyPost_ret (v:= .agg #[ι sh,ι ca,.slice x nr y,.slice l no p]) (by simp[results,Tryz.results103,go_sem,e0,e1,e2,e3]) rfl HF.o
 ·intro L h;have aH:=β w0.drew (.cells #[] 125);have aq:=κ (Blk.below' ad.o aH);have bE:=κ (Blk.below' aX.o aH);have a9:=κ (CrdB.below_step ax.o aH);have bF:Hid (World.ownsRow (w0.drew.alloc (.cells #[] 125)) w.heap.size 125 11 (.slice (some (α w0.heap.size 0)) 0 0) 0 []):=own_empty (blk_hd (by simp)) (by have h8:=ax.o.size;simpa using h8);have bG:Hid (K (w0.drew.alloc (.cells #[] 125))):=⟨aq.o.cell 0,aq.o.cell 1,aq.o.cell 2,aq.o.cell 3⟩;clear aH;go_simp;refine h.out _ _ bG.o ?_;clear h L;refine jP ?_;have ar:=β (w0.drew.alloc (.cells #[] 125)) (.cells #[] 215);have au:=κ (Blk.below' aq.o ar);have bH:=κ (Blk.below' bE.o ar);have aI:=κ (CrdB.below_step a9.o ar);have av:Hid (World.ownsRow ((w0.drew.alloc (.cells #[] 125)).alloc (.cells #[] 215)) w.heap.size 215 3 (.slice (some (α (w0.heap.size+1) 0)) 0 0) 0 []):=own_empty (blk_hd (by simp)) (by have h8:=a9.o.size;simpa using h8);have bI:=own_below bF ar;have bJ:Hid (K ((w0.drew.alloc (.cells #[] 125)).alloc (.cells #[] 215))):=⟨au.o.cell 0,au.o.cell 1,au.o.cell 2,au.o.cell 3⟩;clear ar;refine jN 4 fun L h=>?_
  go_simp;refine h.out _ _ bJ.o ?_;clear h L;refine jP ?_;have bK:=κ (HR.o _ aI.o);refine jN 7 fun L h=>?_
  refine step_appG (nm:=nr) av bK (by simp) rfl _ _ _ rfl i1 (.agg #[.slice none 0 0,ι 0,ι 0]) 40 Tryz.underlying119 aK aL aM aN rfl (by decide) rfl rfl aV.o (rcs_one rl) (by unfold maxLen;omega) (by omega) aI.o.size ?_;intro f g bL ba H;have aw:=κ (blk_own_grown au.o av.o (by decide) H);have bM:=κ (blk_own_grown bH.o av.o (by decide) H);have aJ:=κ (grown_below aI.o av.o H τ aI.o.size);have bN:=κ ba.o;have I:=κ (own_grown bI.o av.o (by decide) H);have bO:Hid (K bL):=⟨aw.o.cell 0,aw.o.cell 1,aw.o.cell 2,aw.o.cell 3⟩;clear H ba;refine h.out _ _ bO.o ?_;clear h L;refine jP ?_;have bP:=κ (HC.o _ aJ.o);refine jN 11 fun L h=>?_
  refine step_appG (nm:=no) I bP (by simp) rfl _ _ _ rfl i2 (.agg #[ι 0,ι 0,ι 0,.bool false,ι 0,ι 0,ι 0,ι 0,ι 0,ι 0,ι 0]) 88 Tryz.underlying120 aO aP aQ aR rfl (by decide) rfl rfl aW.o (ens_one bk.op) (by unfold maxLen;omega) (by omega) aJ.o.size ?_;intro a b P bb q;have Q:=κ (blk_own_grown aw.o I.o (by decide) q);have J:=κ (blk_own_grown bM.o I.o (by decide) q);have bQ:=κ (grown_below aJ.o I.o q τ aJ.o.size);have bR:=κ bb.o;have bS:=κ (own_grown bN.o I.o (by decide) q);have bc:Hid (K P):=⟨Q.o.cell 0,Q.o.cell 1,Q.o.cell 2,Q.o.cell 3⟩;clear q bb;refine h.out _ _ bc.o ?_;clear h L;refine jP ?_;refine jA 12 bc.o ?_;have F3:Blk (st4 P gZ (ι sh) (ι ca) (.slice f nr g) (.slice a no b)) gZ 122 (vB sh ca f nr g a no b):=st4_blk J.o;have BF:Below w.heap.size w (st4 P gZ (ι sh) (ι ca) (.slice f nr g) (.slice a no b)):=st4_below bQ.o aU.o;have aa:=own_st4 bS.o J.o (by decide) (v0:= ι sh) (v1:= ι ca) (v2:= .slice f nr g) (v3:= .slice a no b);have ab:=own_st4 bR.o J.o (by decide) (v0:= ι sh) (v1:= ι ca) (v2:= .slice f nr g) (v3:= .slice a no b)
  have O:MadeCp rl bk w (.returned (.agg (vB sh ca f nr g a no b))) (st4 P gZ (ι sh) (ι ca) (.slice f nr g) (.slice a no b)):=by
   refine⟨f,a,g,b,?_,⟨?_,?_,hm.o.e,fun i hi=>Rd.below' (hm.o.n i hi) BF BF.size⟩,BF⟩
   ·unfold bkA;rw[←hnr.o,←hno.o,←hsh.o.1,←hsh.o.2]
   ·rw[←hnr.o];simpa using aa
   ·rw[←hno.o];simpa using ab
  have HF:=κ O;clear O aa ab BF;obtain⟨z0,z1,z2,z3,g0,g1,g2,g3⟩:=z4_of J.o;have ac:=J.o;have E:=ξ (blk_st ac 0 (ι sh));have F:=ξ (blk_st E 1 (ι ca));have U:=ξ (blk_st F 2 (.slice f nr g));have ak:=E.cell 1;have al:=F.cell 2;have am:=U.cell 3;have a3:=E.thaw 1;have a4:=F.thaw 2;have a5:=U.thaw 3;simp only[List.getElem?_toArray,List.getElem?_cons_succ,List.getElem?_cons_zero]at ak al am;clear ac E F U;refine jV 13 fun L h=>?_
  go_simp;refine h.out _ _ ?_;clear h L;refine jP ?_;refine Δ ?_
  go_wp2_with fail
  obtain⟨e0,e1,e2,e3⟩:=q4_of F3;clear F3;unfold st4 at e0 e1 e2 e3 HF;exact bodyPost_ret (v:= .agg #[ι sh,ι ca,.slice f nr g,.slice a no b]) (by simp[results,Tryz.results103,go_sem,e0,e1,e2,e3]) rfl HF.o
end Rbc
namespace Rbl
theorem rlook7_any(sk wi ra ta:Int)(A1 A2 A3:Option Addr)(n1 n2 n3 c1 c2 c3:Nat)(A C:Option Addr)(nr no c d:Nat)(rl:List Rc)(bk:Bk)(od:Od)(w:World)(sh ca:Int)(hsh:Hid (sh=bk.sh∧ca=bk.ca))(hnr:Hid (nr=bk.rows.length))(hno:Hid (no=bk.op.length))(hm:Hid (Bm w A C rl bk))(hf:Hid (FewB bk))(hin0:inQ nr od.a=true):
  Calls Tryz.prog 70 #[.agg #[.int .i64 sk,.int .i64 wi,.int .i64 ra,.int .i64 ta,.slice A1 n1 c1,.slice A2 n2 c2,.slice A3 n3 c3],.agg #[.int .i64 sh,.int .i64 ca,.slice A nr c,.slice C no d],odA od] w (fun r w'=>r= .returned (.int .i64 (lookF ra ta bk od))∧Below w.heap.size w w'):=by
 obtain⟨a,s,x,p,q,n,t⟩:=od;show Calls Tryz.prog 70 #[.agg #[.int .i64 sk,.int .i64 wi,.int .i64 ra,.int .i64 ta,.slice A1 n1 c1,.slice A2 n2 c2,.slice A3 n3 c3],.agg #[.int .i64 sh,.int .i64 ca,.slice A nr c,.slice C no d],.agg #[.int .i64 a,.int .i64 s,.bool x,.int .i64 p,.int .i64 q,.int .i64 n,.int .i64 t]] w (fun r w'=>r= .returned (.int .i64 (lookF ra ta bk ⟨a,s,x,p,q,n,t⟩))∧Below w.heap.size w w');have b0:Hid (Below w.heap.size w (((w.alloc (.cells (vC sk wi ra ta A1 n1 c1 A2 n2 c2 A3 n3 c3) 31)).alloc (.cells (vB sh ca A nr c C no d) 122)).alloc (.cells (vO a s x p q n t) 55))):=((ψ.alloc τ _).alloc (by simp) _).alloc (by simp<;>omega) _;have K0:Hid (Blk (((w.alloc (.cells (vC sk wi ra ta A1 n1 c1 A2 n2 c2 A3 n3 c3) 31)).alloc (.cells (vB sh ca A nr c C no d) 122)).alloc (.cells (vO a s x p q n t) 55)) w.heap.size 31 (vC sk wi ra ta A1 n1 c1 A2 n2 c2 A3 n3 c3)):=((Blk.fresh w _ _).alloc _).alloc _;have K1:Hid (Blk (((w.alloc (.cells (vC sk wi ra ta A1 n1 c1 A2 n2 c2 A3 n3 c3) 31)).alloc (.cells (vB sh ca A nr c C no d) 122)).alloc (.cells (vO a s x p q n t) 55)) (w.heap.size+1) 122 (vB sh ca A nr c C no d)):=Blk.alloc (blk_hd (by simp)) _;have K2:=κ (δ ((w.alloc (.cells (vC sk wi ra ta A1 n1 c1 A2 n2 c2 A3 n3 c3) 31)).alloc (.cells (vB sh ca A nr c C no d) 122)) 55 (vO a s x p q n t) (w.heap.size+2));have HM:=κ (hm.o.below b0.o)
 go_enter Tryz.func70,Tryz.ntmps70
 go_upto_region 1 with fail
 clear hm;generalize (((w.alloc (.cells (vC sk wi ra ta A1 n1 c1 A2 n2 c2 A3 n3 c3) 31)).alloc (.cells (vB sh ca A nr c C no d) 122)).alloc (.cells (vO a s x p q n t) 55))=w0 at b0 K0 K1 K2 HM ⊢;obtain⟨al,F⟩:=ν w.heap.size;obtain⟨gB,S⟩:=ν (w.heap.size+1);obtain⟨gO,T⟩:=ν (w.heap.size+2);have J0:=κ (ζ F K0.o);have J1:=κ (ζ S K1.o);have J2:=κ (ζ T K2.o);simp only[←T];simp only[←S];simp only[←F];clear F S T K0 K1 K2;obtain⟨e0,e1,e2,e3,e4,e5,e6⟩:=q7_of J0.o;obtain⟨k0,k1,k2,k3⟩:=q4_of J1.o;obtain⟨o0,o1,o2,o3,o4,o5,o6⟩:=q7_of J2.o;have U:=ξ hin0;have am:=inQ_of U;obtain⟨i,hi⟩: ∃i:Nat,a=i:=⟨a.toNat,by omega⟩;subst hi;have aa:i<nr:=by omega
 have ab:=κ U;clear U am;have H:Hid (i<rl.length):=by show _<_;rw[HM.o.len,←hnr.o];exact aa
 obtain⟨b,o,hA,hb,ac⟩:=Rcs.at HM.o.r (by have:=H.o;omega);have ad:=ac i H.o;have HR:=κ (gC_row HM.o.e H.o);have HN:=κ (HM.o.n i H.o);have HL:=κ (hf.o.nl i (by rw[←hnr.o];exact aa));subst hA
 have v:Hid (lookF ra ta bk ⟨(i:Int),s,x,p,q,n,t⟩=(if (gR bk.rows i).ns.contains n=true then 9
  else if t<(gR bk.rows i).sec then 10
  else if t=(gR bk.rows i).sec∧ra≤(gR bk.rows i).cnt then 10
  else if ta≤bk.op.length then 11 else 0)):=by
  show _=_;unfold lookF;rw[←hnr.o];simp only[];rw[if_pos ab.o,Int.toNat_natCast]
 rw[←HR.o]at v HL;rw[←hno.o]at v;clear ac ab HR HM;generalize gC rl i=R at ad HN HL v;obtain⟨An,cn,G,l,m⟩:=R;obtain⟨r0,r1,r2⟩:=ad;simp only[]at r0 r1 r2 HN HL v;obtain⟨nn,V⟩:=ν G.length;rw[←V]at r0 HL;have ae:=κ V;clear V;have E:=κ (b0.o.alloc b0.o.size (.cells (vR An nn cn l m) 215));have I:=κ (Blk.fresh w0 215 (vR An nn cn l m));have U0:=β w0 (.cells (vR An nn cn l m) 215);have K:=κ (Blk.below' J0.o U0);have L:=κ (Blk.below' J1.o U0);have O:=κ (Blk.below' J2.o U0);have y:=η HN.o U0;have av:decide ((i:Int)<(nr:Int))=true:=by simp;omega
 go_upto_region 2 with fail
 clear U0 J0 J1 J2 HN e0 e1 e2 e3 e4 e5 e6 k0 k1 k2 k3 o0 o1 o2 o3 o4 o5 o6 b0;generalize w0.alloc (.cells (vR An nn cn l m) 215)=w2 at E I K L O y ⊢;generalize w0.heap.size=af at I ⊢;obtain⟨e0,e1,e2,e3,e4,e5,e6⟩:=q7_of K.o;obtain⟨k0,k1,k2,k3⟩:=q4_of L.o;obtain⟨o0,o1,o2,o3,o4,o5,o6⟩:=q7_of O.o;obtain⟨m0,m1,m2⟩:=q3_of I.o;clear e0 e1 e2 e3 e4 e5 e6 k0 k1 k2 k3 o0 o1 o2 o3 o4 o5 o6 m0 m1 m2
 go_wp2_with fail
 go_loopg [8] nn (fun g s8 w'=> ∃j:Nat,j+g=nn∧s8= ι j∧Hid (∀k,k<j→gI G k≠n)∧Hid (Blk w' af 215 (vR An nn cn l m))∧Hid (Blk w' al 31 (vC sk wi ra ta A1 n1 c1 A2 n2 c2 A3 n3 c3))∧Hid (Blk w' gB 122 (vB sh ca (some (α b o)) nr c C no d))∧Hid (Blk w' gO 55 (vO (i:Int) s x p q n t))∧Hid (Ris w' w'.heap.size An G)∧Hid (Below w.heap.size w w'))
 case atStart=>exact⟨0,by omega,rfl,(fun k hk=>by omega),I,K,L,O,y,E⟩
 case round=>
  clear I K L O y E;obtain⟨j,hj,rfl,ag,I,K,L,O,y,E⟩:=hrel;obtain⟨e0,e1,e2,e3,e4,e5,e6⟩:=q7_of K.o;obtain⟨k0,k1,k2,k3⟩:=q4_of L.o;obtain⟨o0,o1,o2,o3,o4,o5,o6⟩:=q7_of O.o;obtain⟨m0,m1,m2⟩:=q3_of I.o;have aw:=HL.o;by_cases hlt2:j<nn
  ·obtain⟨g9,rfl⟩: ∃g9,gk=g9+1:=⟨gk-1,by omega⟩;have t0:decide ((j:Int)<(nn:Int))=true:=by simp;omega
   have W:j<G.length:=by rw[←ae.o];exact hlt2
   obtain⟨b9,o9,an,ax,P⟩:=Ris.at (i:=j) y.o W;have X:=P j W;subst an;obtain⟨xv,Y⟩:=ν (gI G j);rw[←Y]at X;have ah:=κ Y;clear Y P;have ai:=κ (ε I.o);have ao:=κ (ε K.o);have ap:=κ (ε L.o);have aj:=κ (ε O.o);have aq:Hid (Ris wr.drew wr.drew.heap.size (some (α b9 o9)) G):=y.o;have ak:=κ (Below.drew E.o)
   go_upto_region 5 with fail
   let Q:World→Prop:=fun w'=>w'.cell? (α af 0)=some (.slice (some (α b9 o9)) nn cn)∧w'.cell? (α gO 5)=some (ι n)∧w'.cell? (α b9 (o9+j))=some (ι xv)
   have J:Hid (Q (wr.drew)):=⟨ai.o.cell 0,aj.o.cell 5,X⟩;refine Ω Q [] ?_;refine jA 0 J.o ?_;refine jB 1 J.o ?_;refine jA 2 J.o ?_;refine jA 3 J.o ?_;refine jB 4 J.o ?_;refine jA 5 J.o ?_;refine jB 6 J.o ?_;refine jA 7 J.o ?_;refine Δ ?_;clear J e0 e1 e2 e3 e4 e5 e6 k0 k1 k2 k3 o0 o1 o2 o3 o4 o5 o6 m0 m1 m2 X I K L O y E;by_cases hv:xv=n
   ·have t1:(xv==n)=true:=by simp[hv]
    have f:Hid (lookF ra ta bk ⟨(i:Int),s,x,p,q,n,t⟩=9):=by
     show _=_;rw[v.o,if_pos]
     have Z:n∈G:=by
      rw[←hv,ah.o];simp[gI,W]
     simp[Z]
    clear hv
    go_wp2_with fail
    go_ret;exact⟨congrArg Ending.returned (congrArg (Value.int .i64) f.o.symm),ak.o⟩
   ·have t1:(xv==n)=false:=by simp[hv]
    have ar:Hid (∀k,k<j+1→gI G k≠n):=by
     intro k hk;by_cases hkj:k=j
     ·subst hkj;rw[←ah.o];exact hv
     ·exact ag.o k (by omega)
    clear hv
    go_wp2_with fail
    go_roundg g9
    case measure=>omega
    case rel=>exact⟨j+1,by omega,by rw[Int.natCast_add];rfl,ar,ai,ao,ap,aj,aq,ak⟩
  ·have t0:decide ((j:Int)<(nn:Int))=false:=by simp;omega
   have c1: ¬G.contains n=true:=by
    intro Z;have au:n∈G:=by simpa using Z
    obtain⟨k,hk,he⟩:=List.mem_iff_getElem.1 au;refine ag.o k (by have:=ae.o;omega) ?_;simp[gI,hk,he]
   have z:Hid (lookF ra ta bk ⟨(i:Int),s,x,p,q,n,t⟩=(if t<l then 10 else if t=l∧ra≤m then 10 else if ta≤(no:Int) then 11 else 0)):=by show _=_;rw[v.o,if_neg c1]
   clear c1 v;by_cases c2:t<l
   ·have t2:decide (t<l)=true:=by simp[c2]
    have f:Hid (lookF ra ta bk ⟨(i:Int),s,x,p,q,n,t⟩=10):=by show _=_;rw[z.o,if_pos c2]
    go_wp2_with fail
    go_ret;exact⟨congrArg Ending.returned (congrArg (Value.int .i64) f.o.symm),E.o⟩
   ·have t2:decide (t<l)=false:=by simp[c2]
    by_cases c3:t=l
    ·have t3:(t==l)=true:=by simp[c3]
     by_cases c4:ra≤m
     ·have t4:decide (ra≤m)=true:=by simp[c4]
      have f:Hid (lookF ra ta bk ⟨(i:Int),s,x,p,q,n,t⟩=10):=by show _=_;rw[z.o,if_neg c2,if_pos ⟨c3,c4⟩]
      clear c3
      go_wp2_with fail
      go_ret;exact⟨congrArg Ending.returned (congrArg (Value.int .i64) f.o.symm),E.o⟩
     ·have t4:decide (ra≤m)=false:=by simp[c4]
      by_cases c5:ta≤(no:Int)
      ·have t5:decide (ta≤(no:Int))=true:=by simp[c5]
       have f:Hid (lookF ra ta bk ⟨(i:Int),s,x,p,q,n,t⟩=11):=by show _=_;rw[z.o,if_neg c2,if_neg (fun h=>c4 h.2),if_pos c5]
       clear c3
       go_wp2_with fail
       go_ret;exact⟨congrArg Ending.returned (congrArg (Value.int .i64) f.o.symm),E.o⟩
      ·have t5:decide (ta≤(no:Int))=false:=by simp[c5]
       have f:Hid (lookF ra ta bk ⟨(i:Int),s,x,p,q,n,t⟩=0):=by show _=_;rw[z.o,if_neg c2,if_neg (fun h=>c4 h.2),if_neg c5]
       clear c3
       go_wp2_with fail
       go_ret;exact⟨congrArg Ending.returned (congrArg (Value.int .i64) f.o.symm),E.o⟩
    ·have t3:(t==l)=false:=by simp[c3]
     by_cases c5:ta≤(no:Int)
     ·have t5:decide (ta≤(no:Int))=true:=by simp[c5]
      have f:Hid (lookF ra ta bk ⟨(i:Int),s,x,p,q,n,t⟩=11):=by show _=_;rw[z.o,if_neg c2,if_neg (fun h=>c3 h.1),if_pos c5]
      go_wp2_with fail
      go_ret;exact⟨congrArg Ending.returned (congrArg (Value.int .i64) f.o.symm),E.o⟩
     ·have t5:decide (ta≤(no:Int))=false:=by simp[c5]
      have f:Hid (lookF ra ta bk ⟨(i:Int),s,x,p,q,n,t⟩=0):=by show _=_;rw[z.o,if_neg c2,if_neg (fun h=>c3 h.1),if_neg c5]
      go_wp2_with fail
      go_ret;exact⟨congrArg Ending.returned (congrArg (Value.int .i64) f.o.symm),E.o⟩
end Rbl
namespace Rbd
open Rr4 Bkg Bcl Dlk Apt Bko Bku Bka Bkc Rba Rbc
def Fr(B:Nat)(X:Option Addr):Prop:= ∀a,X=some a→B≤a.block
def Nw(B:Nat)(rl:List Rc)(A C:Option Addr)(rl':List Rc):Prop:=Fr B A∧Fr B C∧ ∀i,i<rl'.length→Fr B (gC rl' i).A∨ ∃j,j<rl.length∧gC rl' i=gC rl j
def MadeRb(rl:List Rc)(b:Bk)(x:Int)(w:World)(e:Ending)(w':World):Prop:=
 ∃A C c d rl',e= .returned (.tuple #[bkA A C c d b,.int .i64 x])∧Bm w' A C rl' b∧(x=0→Nw w.heap.size rl A C rl'∧b.op.length≤d)∧Below w.heap.size w w'
variable {b:Bk} {rl:List Rc} {xs ys:List Value} {B base c d o:Nat} {A C:Option Addr} {w:World}
theorem Co_bm(h:Co base w A C c d rl b):Bm w A C rl b:=⟨Rd.of_own h.r,h.e,h.n,Rd.of_own h.o⟩
theorem own_cap{e:TypeId}{size n:Nat}(h:w.ownsRow base e size (.slice A n c) n xs):n≤c:=by
 by_cases h0:n=0
 ·omega
 ·obtain⟨g,a⟩:=Bko.own_at h (by omega);subst a;exact(own_room h).2.2.1
theorem Co_nw(h:Co base w A C c d rl b):Nw base rl A C rl∧b.op.length≤d:=
 ⟨⟨fun a e=>Tre.own_fresh h.r a e,fun a e=>Tre.own_fresh h.o a e,fun i f=> .inr ⟨i,f,rfl⟩⟩,own_cap h.o⟩
theorem Co_below{w':World}(h:Co base w A C c d rl b)(hb:Below w.heap.size w w'):Co base w' A C c d rl b:=
 ⟨own_below h.r hb,own_below h.o hb,h.e,fun i a=>Rd.below' (h.n i a) hb hb.size⟩
theorem Co_mono{base':Nat}(h:Co base w A C c d rl b)(hb:base'≤base):Co base' w A C c d rl b:=
 ⟨CrdB.own_mono h.r hb,CrdB.own_mono h.o hb,h.e,h.n⟩
theorem copy_agg{sh ca:Int}{nr no:Nat}{bk:Bk}(hsh:sh=bk.sh∧ca=bk.ca)(hnr:nr=bk.rows.length)(hno:no=bk.op.length)(A C:Option Addr)(c d:Nat):bkA A C c d bk= .agg #[.int .i64 sh,.int .i64 ca,.slice A nr c,.slice C no d]:=by
 unfold bkA;rw[hsh.1,hsh.2,hnr,hno]
theorem slice_front(b o n d i:Nat)(h:i≤d)(W:World):(Instr.slice 120 (.slice (some ⟨b,o,none⟩) n d) none (some (.int .i64 (i:Int))) none).run Tryz.prog W= .ok (.slice (some ⟨b,o,none⟩) i d) W:=by
 rw[run_slice_h W 120 (some ⟨b,o,none⟩) n d (by kernel_rfl) .i64 (i:Int) (by omega) (by omega)];rw[show(sizeOf (Tryz.prog.elem 120)).run Tryz.prog W= .ok 11 W from by kernel_rfl];simp[Result.andThen,sliced,Addr.add]
theorem slice_back(b o n d i:Nat)(h:i≤n)(hd:n≤d)(W:World): ∃X,(∀W:World,(Instr.slice 120 (.slice (some ⟨b,o,none⟩) n d) (some (.int .i64 (i:Int))) none none).run Tryz.prog W= .ok (.slice X (n-i) (d-i)) W)∧(i<d→X=some ⟨b,o+i*11,none⟩):=by
 refine⟨if d=i then some (α b o) else some (α b (o+i*11)),fun W=>?_,fun a=>by rw[if_neg (by omega)]⟩;rw[run_slice_l W 120 (some ⟨b,o,none⟩) n d (by kernel_rfl) .i64 (i:Int) (by omega) (by omega)];rw[show(sizeOf (Tryz.prog.elem 120)).run Tryz.prog W= .ok 11 W from by kernel_rfl];simp[Result.andThen,sliced,Addr.add];by_cases e:d=i
 ·simp[e]
 ·simp only[if_neg e]
  congr 1
  by_cases h0:i*11=0
  ·rw[if_pos h0,h0];rfl
  ·rw[if_neg h0]
theorem front(h:Rd w B A (xs++ys)):Rd w B A xs:=by
 rcases h with h|⟨b,o,hA,hb,hc⟩
 ·exact .inl (List.append_eq_nil_iff.1 h).1
 ·exact .inr ⟨b,o,hA,hb,fun i v a=>hc i v (by rw[List.getElem?_append_left (List.getElem?_eq_some_iff.1 a).1];exact a)⟩
theorem back{b:Nat}(h:Rd w B (some ⟨b,o,none⟩) (xs++ys)):Rd w B (some ⟨b,o+xs.length,none⟩) ys:=by
 rcases h with h|⟨b',o',hA,hb,hc⟩
 ·exact .inl (List.append_eq_nil_iff.1 h).2
 ·injection hA with hA
  injection hA with h1 h2
  subst h1;subst h2;refine .inr ⟨b,o+xs.length,rfl,hb,fun i v a=>?_⟩;have e:=hc (xs.length+i) v (by rw[List.getElem?_append_right (by omega)];simpa using a);rwa[←Nat.add_assoc]at e
theorem ens_cut{b:Nat}{l:List En}(h:Rd w B (some ⟨b,o,none⟩) (ens l))(i:Nat)(hi:i<l.length):Rd w B (some ⟨b,o,none⟩) (ens (l.take i))∧Rd w B (some ⟨b,o+(i+1)*11,none⟩) (ens (l.drop (i+1))):=by
 constructor
 ·have e:ens l=ens (l.take i)++ens (l.drop i):=by rw[←ens_app,List.take_append_drop]
  rw[e]at h;exact front h
 ·have e:ens l=ens (l.take (i+1))++ens (l.drop (i+1)):=by rw[←ens_app,List.take_append_drop]
  rw[e]at h;have a:=back h;rwa[ens_len,List.length_take,show min (i+1) l.length=i+1 by omega]at a
def MadeCl(rl:List Rc)(b:Bk)(w:World)(e:Ending)(w':World):Prop:=
 ∃A C c d,e= .returned (bkA A C c d b)∧Co w.heap.size w' A C c d rl b∧Below w.heap.size w w'
theorem closed_any(sh ca:Int)(A C:Option Addr)(nr no c d:Nat)(rl:List Rc)(bk:Bk)(i:Nat)(w:World)(hsh:Hid (sh=bk.sh∧ca=bk.ca))(hnr:Hid (nr=bk.rows.length))(hno:Hid (no=bk.op.length))(hm:Hid (Bm w A C rl bk))(l1:nr≤1000)(l2:no≤1000)(hd:no≤d)(hi:i<no):
  Calls Tryz.prog 107 #[.agg #[.int .i64 sh,.int .i64 ca,.slice A nr c,.slice C no d],.int .i64 (i:Int)] w (MadeCl rl ⟨bk.sh,bk.ca,bk.rows,delE bk.op i⟩ w):=by
 obtain⟨i2,aa,ab,ac,ad⟩:=info_parts infoRE;have b0:=κ (γ w (.cells (vB sh ca A nr c C no d) 122) (.cells (vB 0 0 none 0 0 none 0 0) 122));have K0:=κ ((Blk.fresh w 122 (vB sh ca A nr c C no d)).alloc (.cells (vB 0 0 none 0 0 none 0 0) 122));have R0:=κ (δ (w.alloc (.cells (vB sh ca A nr c C no d) 122)) 122 (vB 0 0 none 0 0 none 0 0) (w.heap.size+1))
 go_enter Tryz.func107,Tryz.ntmps107
 go_upto_region 1 with fail
 obtain⟨gB,R⟩:=ν w.heap.size;obtain⟨S,T⟩:=ν (w.heap.size+1);have K1:=κ (ζ R K0.o);have R1:=κ (ζ T R0.o);have aw:Hid (w.heap.size≤S):=by show _≤_;omega
 simp only[←T];simp only[←R];clear R T K0 R0;generalize ((w.alloc (.cells (vB sh ca A nr c C no d) 122)).alloc (.cells (vB 0 0 none 0 0 none 0 0) 122))=w0 at b0 K1 R1 ⊢;have ae:=κ (hm.o.below b0.o);obtain⟨k0,k1,k2,k3⟩:=q4_of K1.o
 go_wp2_with fail
 refine(copied_any sh ca A C nr no c d rl bk _ hsh hnr hno ae l1 l2).mono ?_;rintro e w2 ⟨l,C',m,d',he,af,q⟩;rw[copy_agg hsh.o hnr.o hno.o]at he;subst he;have U3:=β w2 (.cells (vB sh ca l nr m C' no d') 122);have V3:=κ (Blk.fresh w2 122 (vB sh ca l nr m C' no d'));have B3:=κ (CrdB.below_step (CrdB.below_step b0.o q) U3);have K3:=κ (Blk.below' (Blk.below' K1.o q) U3);have R3:=κ (Blk.below' (Blk.below' R1.o q) U3);have O3:=κ (Co_below (Co_mono af b0.o.size) U3);have ag:=κ ((CrdB.below_step b0.o q).size);have ax:Hid (w2.heap.size≠gB):=by show _≠_;have:=(Blk.below' K1.o q).lt;omega
 have ah:Hid (w2.heap.size≠S):=by show _≠_;have:=(Blk.below' R1.o q).lt;omega
 clear k0 k1 k2 k3 q af U3 b0 K1 R1 ae
 go_upto_region 2 with fail
 generalize w2.alloc (.cells (vB sh ca l nr m C' no d') 122)=w3 at V3 B3 K3 R3 O3 ⊢;generalize w2.heap.size=K at V3 ax ah ag ⊢;have ay:i<bk.op.length:=by rw[←hno.o];exact hi
 obtain⟨cb,co,hC,aK,_⟩:=Rd.at hm.o.o (by intro e;have h1:=ens_len bk.op;rw[e]at h1;simp at h1;omega);subst hC;have F:=κ (ens_cut hm.o.o i ay);have az:Hid (∀W,Below w.heap.size w W→Rd W W.heap.size (some (α cb co)) (ens (bk.op.take i))):=fun W hb=>Rd.below' F.o.1 hb hb.size
 have aL:=slice_front cb co no d i (by omega);obtain⟨X,U,hX⟩:=slice_back cb co no d (i+1) (by omega) hd w
 have aA:Hid (∀W,Below w.heap.size w W→Rd W W.heap.size X (ens (bk.op.drop (i+1)))):=by
  intro W hb;by_cases h9:i+1<d
  ·rw[hX h9];exact Rd.below' F.o.2 hb hb.size
  ·have h8:bk.op.drop (i+1)=[]:=List.drop_eq_nil_of_le (by rw[←hno.o];omega);rw[h8];exact .inl rfl
 have e9:((i+1:Nat):Int)=(i:Int)+1:=by omega
 rw[e9]at U;have ew:IntKind.i64.wrap ((i:Int)+1)=(i:Int)+1:=by rw[IntKind.wrap_i64];omega
 have aB:Hid ((ens (bk.op.take i)).length=i*11):=by show _=_;rw[ens_len,List.length_take,show min i bk.op.length=i by omega]
 obtain⟨V,s⟩:=ν (no-(i+1));rw[←s]at U;have aC:Hid ((ens (bk.op.drop (i+1))).length=V*11):=by show _=_;rw[ens_len,List.length_drop,←hno.o,s]
 obtain⟨j,Y⟩:=ν (i+V);have aD:=κ Y
 have ai:Hid ((delE bk.op i).length=j):=by
  show(bk.op.take i++bk.op.drop (i+1)).length=_;rw[List.length_append,List.length_take,List.length_drop,←hno.o,Y,s];omega
 have aM:V≤1000:=by omega
 obtain⟨aN,L⟩:=ν (d-(i+1));rw[←L]at U;clear s Y L hX e9 F;have aj:=κ (ε K3.o);have aE:=κ (ε R3.o);have ak:=κ (ε V3.o);have al:=κ (Below.drew B3.o);have aF:Hid (w3.drew.ownsRow w.heap.size 215 3 (.slice l nr m) nr (rcs rl)):=by have h:=O3.o.r;rw[←hnr.o]at h;exact own_drew h
 let G:World→Prop:=fun w'=>w'.cell? (α gB 3)=some (.slice (some (α cb co)) no d)∧w'.cell? (α K 3)=some (.slice C' no d')
 have J:Hid (G (w3.drew)):=⟨aj.o.cell 3,ak.o.cell 3⟩;clear K3 R3 V3 B3;refine Ω G [13] ?_;refine jA 1 J.o ?_;refine jB 2 J.o ?_;refine jA 3 J.o ?_;refine jA 4 J.o ?_;refine jA 6 J.o ?_;refine jB 7 J.o ?_;refine jA 8 J.o ?_;refine jA 9 J.o ?_;refine jA 10 J.o ?_;have U4:=β w3.drew (.cells #[] 125);have K4:=κ (Blk.below' aj.o U4);have R4:=κ (Blk.below' aE.o U4);have V4:=κ (Blk.below' ak.o U4);have B4:=κ (CrdB.below_step al.o U4);have aG:=own_below aF U4;have t:Hid (World.ownsRow (w3.drew.alloc (.cells #[] 125)) w.heap.size 125 11 (.slice (some (α w3.heap.size 0)) 0 0) 0 []):=own_empty (blk_hd (by simp)) (by have h8:=al.o.size;simpa using h8);have aH:Hid (G (w3.drew.alloc (.cells #[] 125))):=⟨K4.o.cell 3,V4.o.cell 3⟩;have Q4:=κ (az.o _ B4.o);clear U4;refine jN 0 fun Z H=>?_
 go_simp;refine H.out _ _ aH.o ?_;clear H Z;refine jP ?_;refine jN 5 fun Z H=>?_
 refine step_appG (nm:=i) t Q4 (by simp) rfl _ _ _ rfl i2 (.agg #[ι 0,ι 0,ι 0,.bool false,ι 0,ι 0,ι 0,ι 0,ι 0,ι 0,ι 0]) 88 Tryz.underlying120 aa ab ac ad rfl (by decide) rfl rfl aB.o (ens_one _) (by unfold maxLen;omega) (by omega) B4.o.size ?_;intro X5 y5 w5 O5 x;have K5:=κ (blk_own_grown K4.o t.o (by decide) x);have R5:=κ (blk_own_grown R4.o t.o (by decide) x);have V5:=κ (blk_own_grown V4.o t.o (by decide) x);have B5:=κ (grown_below B4.o t.o x τ B4.o.size);have aI:=κ (Apt.own_grown aG.o t.o (by decide) x);have y:=κ O5.o;have aJ:Hid (G w5):=⟨K5.o.cell 3,V5.o.cell 3⟩;clear x O5;refine H.out _ _ aJ.o ?_;clear H Z;refine jP ?_;have Q5:=κ (aA.o _ B5.o);refine jN 11 fun Z H=>?_
 refine step_appG (nm:=j) y Q5 aD.o rfl _ _ _ rfl i2 (.agg #[ι 0,ι 0,ι 0,.bool false,ι 0,ι 0,ι 0,ι 0,ι 0,ι 0,ι 0]) 88 Tryz.underlying120 aa ab ac ad rfl (by decide) rfl rfl aC.o (ens_one _) (by unfold maxLen;omega) (by omega) B5.o.size ?_;intro a f z am g;have an:=κ (blk_own_grown K5.o y.o (by decide) g);have ao:=κ (blk_own_grown R5.o y.o (by decide) g);have E:=κ (blk_own_grown V5.o y.o (by decide) g);have ap:=κ (grown_below B5.o y.o g τ B5.o.size);have O:=κ (Apt.own_grown aI.o y.o (by decide) g);have P:=κ am.o;have I:Hid (G z):=⟨an.o.cell 3,E.o.cell 3⟩;clear g am;refine H.out _ _ I.o ?_;clear H Z;refine jP ?_;refine jA 12 I.o ?_;obtain⟨v0,v1,v2,v3,g0,g1,g2,g3⟩:=z4_of E.o;refine jV 13 fun Z H=>?_
 go_simp;refine H.out _ _ ?_;clear H Z;refine jP ?_;refine Δ ?_;have V9:=κ (ξ (blk_st E.o 3 (.slice a j f)));have R9:Hid (Blk (z.setCell (α K 3) (.slice a j f)) S 122 (vB 0 0 none 0 0 none 0 0)):=far_st ao.o (fun e=>ah.o e.symm) _;have B9:Hid (Below w.heap.size w (z.setCell (α K 3) (.slice a j f))):=ap.o.setCell (p:=(α K 3)) (by show w.heap.size≤K;exact ag.o) _;have aq:Hid (World.ownsRow (z.setCell (α K 3) (.slice a j f)) w.heap.size 215 3 (.slice l nr m) nr (rcs rl)):=own_st O.o E.o (by decide) 3 _
 have ar:Hid (World.ownsRow (z.setCell (α K 3) (.slice a j f)) w.heap.size 125 11 (.slice a j f) j (ens (delE bk.op i))):=by
  have h:=own_st P.o E.o (by decide) 3 (.slice a j f);show World.ownsRow _ _ _ _ _ _ _;simpa[delE,ens_app] using h
 go_upto_region 3 with fail
 clear v0 v1 v2 v3 g0 g1 g2 g3 E ao ap O P I an;generalize (z.setCell (α K 3) (.slice a j f))=w9 at V9 R9 B9 aq ar ⊢;have F3:Blk (st4 w9 S (ι sh) (ι ca) (.slice l nr m) (.slice a j f)) S 122 (vB sh ca l nr m a j f):=st4_blk R9.o;have BF:Below w.heap.size w (st4 w9 S (ι sh) (ι ca) (.slice l nr m) (.slice a j f)):=st4_below B9.o aw.o;have au:=own_st4 aq R9.o (by decide) (v0:= ι sh) (v1:= ι ca) (v2:= .slice l nr m) (v3:= .slice a j f);have av:=own_st4 ar R9.o (by decide) (v0:= ι sh) (v1:= ι ca) (v2:= .slice l nr m) (v3:= .slice a j f)
 have Q:MadeCl rl ⟨bk.sh,bk.ca,bk.rows,delE bk.op i⟩ w (.returned (.agg (vB sh ca l nr m a j f))) (st4 w9 S (ι sh) (ι ca) (.slice l nr m) (.slice a j f)):=by
  refine⟨l,a,m,f,?_,⟨?_,?_,hm.o.e,fun k hk=>Rd.below' (hm.o.n k hk) BF BF.size⟩,BF⟩
  ·unfold bkA;rw[←hnr.o,←hsh.o.1,←hsh.o.2];simp only[ai.o]
  ·show World.ownsRow _ _ _ _ (.slice l bk.rows.length m) bk.rows.length _;rw[←hnr.o];exact au
  ·show World.ownsRow _ _ _ _ (.slice a (delE bk.op i).length f) (delE bk.op i).length _;rw[ai.o];exact av
 have HF:=κ Q;clear Q au av BF;obtain⟨v0,v1,v2,v3,_,_,_,_⟩:=z4_of V9.o;obtain⟨z0,z1,z2,z3,g0,g1,g2,g3⟩:=z4_of R9.o
 go_wp2_with fail
 obtain⟨e0,e1,e2,e3⟩:=q4_of F3;clear F3;unfold st4 at e0 e1 e2 e3 HF;exact bodyPost_ret (v:= .agg #[ι sh,ι ca,.slice l nr m,.slice a j f]) (by simp[results,Tryz.results107,go_sem,e0,e1,e2,e3]) rfl HF.o
end Rbd
end Go.Proofs.YtcccdikhfgpamaaGreat
