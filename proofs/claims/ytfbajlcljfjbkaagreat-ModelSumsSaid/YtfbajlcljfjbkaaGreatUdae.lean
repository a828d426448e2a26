/- Texts side by side. -/
import Derived.Test.YtfbajlcljfjbkaaGreatUniak
import Derived.Test.YtfbajlcljfjbkaaGreatUdad
set_option linter.unusedVariables false
set_option linter.unusedSimpArgs false
set_option maxRecDepth 100000
set_option maxHeartbeats 16000000
namespace Go.Proofs.YtfbajlcljfjbkaaGreat
open Kap Abv Lax Go.ChangeShapes Go.WideShapes Go.ChangeAt Go.RowKit Mem Tre Ref3 Law3 CrdB CrdC Bkp Bks Bkf Stk Lat
namespace Rbc
open Crd Rr4 Bkg Bcl Dlk Apt Bko Bku Bka Bkc
theorem infoRR:(Tryz.prog.info? 153).map (fun i=>(i.zero,i.size,i.bytes))=some (some (.agg #[.slice none 0 0,.int .i64 0,.int .i64 0]),3,40):=by kernel_rfl
theorem infoRE:(Tryz.prog.info? 122).map (fun i=>(i.zero,i.size,i.bytes))=some (some (.agg #[.int .i64 0,.int .i64 0,.int .i64 0,.bool false,.int .i64 0,.int .i64 0,.int .i64 0,.int .i64 0,.int .i64 0,.int .i64 0,.int .i64 0]),11,88):=by kernel_rfl
theorem wpL_two{P:Program}{ops:Array Oper}{Q:Exit→Act→World→Prop}{md:Region.Mode}{T:World→Prop}{st:List Nat}{m n k:Nat}{om on:Oper}{up:Array Bool}{a:Act}{w:World}(hr:Region.ready md ops up=[m,n])(hm:ops[m]? =some om)(hn:ops[n]? =some on)
  (h1: ∀K:Act→World→Prop,Shut (∀a w,T w→wpL P md ops Q T st k (up.setIfInBounds m true) a w→K a w)→if Region.wanted om (yielded ops a.tmps)=true then Oper.wp P om a w K Q else K (a.put om.dst undef) w)
  (h2: ∀K:Act→World→Prop,Shut (∀a w,T w→wpL P md ops Q T st k (up.setIfInBounds n true) a w→K a w)→if Region.wanted on (yielded ops a.tmps)=true then Oper.wp P on a w K Q else K (a.put on.dst undef) w):
  wpL P md ops Q T st (k+1) up a w:=by
 refine⟨fun h0=>(by rw[hr]at h0;cases h0),?_⟩;rw[hr];intro j hj;simp only[List.mem_cons,List.not_mem_nil,or_false]at hj;rcases hj with rfl|rfl
 ·exact wpOp_step hm (fun K hK=>h1 K (fun a w hT hW=>hK a w ⟨fun _=>hT,hW⟩))
 ·exact wpOp_step hn (fun K hK=>h2 K (fun a w hT hW=>hK a w ⟨fun _=>hT,hW⟩))
structure Co(base:Nat)(w:World)(A C:Option Addr)(c d:Nat)(rl:List Rc)(b:Bk):Prop where
 r:w.ownsRow base 153 3 (.slice A b.rows.length c) b.rows.length (rcs rl)
 o:w.ownsRow base 122 11 (.slice C b.op.length d) b.op.length (ens b.op)
 e:rl.map Rc.r=b.rows
 n: ∀i,i<rl.length→Ris w w.heap.size (gC rl i).A (gC rl i).r.ns
def MadeCp(rl:List Rc)(b:Bk)(w:World)(e:Ending)(w':World):Prop:=
 ∃A C c d,e= .returned (bkA A C c d b)∧Co w.heap.size w' A C c d rl b∧Below w.heap.size w w'
theorem copied_any(sh ca:Int)(A C:Option Addr)(nr no c d:Nat)(rl:List Rc)(bk:Bk)(w:World)(hsh:Hid (sh=bk.sh∧ca=bk.ca))(hnr:Hid (nr=bk.rows.length))(hno:Hid (no=bk.op.length))(hm:Hid (Bm w A C rl bk))(l1:nr≤1000)(l2:no≤1000):
  Calls Tryz.prog 116 #[.agg #[.int .i64 sh,.int .i64 ca,.slice A nr c,.slice C no d]] w (MadeCp rl bk w):=by
 obtain⟨i1,hi1,hy0,hy1,hy2⟩:=info_parts infoRR;obtain⟨i2,hi2,hz0,hz1,hz2⟩:=info_parts infoRE;have b0:=κ (γ w (.cells (vB sh ca A nr c C no d) 110) (.cells (vB 0 0 none 0 0 none 0 0) 110));have K0:=κ ((Blk.fresh w 110 (vB sh ca A nr c C no d)).alloc (.cells (vB 0 0 none 0 0 none 0 0) 110));have R0:=κ (δ (w.alloc (.cells (vB sh ca A nr c C no d) 110)) 110 (vB 0 0 none 0 0 none 0 0) (w.heap.size+1))
 go_enter Tryz.func116,Tryz.ntmps116
 go_upto_region 1 with fail
 obtain⟨gB,hgB⟩:=ν w.heap.size;obtain⟨gZ,hgR⟩:=ν (w.heap.size+1);have K1:=κ (ζ hgB K0.out);have R1:=κ (ζ hgR R0.out);have hge:Hid (w.heap.size≤gZ):=by show _≤_;omega
 simp only[←hgR];simp only[←hgB];clear hgB hgR K0 R0;generalize ((w.alloc (.cells (vB sh ca A nr c C no d) 110)).alloc (.cells (vB 0 0 none 0 0 none 0 0) 110))=w0 at b0 K1 R1 ⊢;have HL1:Hid ((rcs rl).length=nr*3):=by show _=_;rw[rcs_len,hm.out.len,hnr.out]
 have HL2:Hid ((ens bk.op).length=no*11):=by show _=_;rw[ens_len,hno.out]
 have HR:Hid (∀W,Below w.heap.size w W→Rd W W.heap.size A (rcs rl)):=fun W hb=>Rd.below' hm.out.r hb hb.size
 have HC:Hid (∀W,Below w.heap.size w W→Rd W W.heap.size C (ens bk.op)):=fun W hb=>Rd.below' hm.out.o hb hb.size
 have K1d:=κ (ε K1.out);have R1d:=κ (ε R1.out);have B1d:=κ (Below.drew b0.out);let T28:World→Prop:=fun w'=>w'.cell? (α gB 0)=some (ι sh)∧w'.cell? (α gB 1)=some (ι ca)∧w'.cell? (α gB 2)=some (.slice A nr c)∧w'.cell? (α gB 3)=some (.slice C no d)
 have HT:Hid (T28 (w0.drew)):=⟨K1d.out.cell 0,K1d.out.cell 1,K1d.out.cell 2,K1d.out.cell 3⟩;clear K1 R1 b0;refine Ω T28 [13] ?_;refine jA 0 HT.out ?_;refine jB 1 HT.out ?_;refine jA 2 HT.out ?_;refine jB 3 HT.out ?_;refine jA 5 HT.out ?_;refine jB 6 HT.out ?_;refine jA 9 HT.out ?_;refine jB 10 HT.out ?_;refine wpL_two (m:=4) (n:=8) (by kernel_rfl) rfl rfl ?_ ?_
 ·intro K' hK;have Ua40:=β w0.drew (.cells #[] 153);have Ka40:=κ (Blk.below' K1d.out Ua40);have Ra40:=κ (Blk.below' R1d.out Ua40);have Ba40:=κ (CrdB.below_step B1d.out Ua40);have ORa40:Hid (World.ownsRow (w0.drew.alloc (.cells #[] 153)) w.heap.size 153 3 (.slice (some (α w0.heap.size 0)) 0 0) 0 []):=own_empty (blk_hd (by simp)) (by have h8:=B1d.out.size;simpa using h8);have HTa40:Hid (T28 (w0.drew.alloc (.cells #[] 153))):=⟨Ka40.out.cell 0,Ka40.out.cell 1,Ka40.out.cell 2,Ka40.out.cell 3⟩;clear Ua40;go_simp;refine hK.out _ _ HTa40.out ?_;clear hK K';refine jP ?_;refine wpL_two (m:=7) (n:=8) (by kernel_rfl) rfl rfl ?_ ?_
  ·intro K' hK;have Qp71:=κ (HR.out _ Ba40.out);refine step_appG (nm:=nr) ORa40 Qp71 (by simp) rfl _ _ _ rfl i1 (.agg #[.slice none 0 0,ι 0,ι 0]) 40 Tryz.underlying107 hi1 hy0 hy1 hy2 rfl (by decide) rfl rfl HL1.out (rcs_one rl) (by unfold maxLen;omega) (by omega) Ba40.out.size ?_;intro Xp71 yp71 wp71 Op71 hgp71;have Kp71:=κ (blk_own_grown Ka40.out ORa40.out (by decide) hgp71);have Rp71:=κ (blk_own_grown Ra40.out ORa40.out (by decide) hgp71);have Bp71:=κ (grown_below Ba40.out ORa40.out hgp71 τ Ba40.out.size);have ORp71:=κ Op71.out;have HTp71:Hid (T28 wp71):=⟨Kp71.out.cell 0,Kp71.out.cell 1,Kp71.out.cell 2,Kp71.out.cell 3⟩;clear hgp71 Op71;refine hK.out _ _ HTp71.out ?_;clear hK K';refine jP ?_;have Ua82:=β wp71 (.cells #[] 122);have Ka82:=κ (Blk.below' Kp71.out Ua82);have Ra82:=κ (Blk.below' Rp71.out Ua82);have Ba82:=κ (CrdB.below_step Bp71.out Ua82);have OEa82:Hid (World.ownsRow (wp71.alloc (.cells #[] 122)) w.heap.size 122 11 (.slice (some (α wp71.heap.size 0)) 0 0) 0 []):=own_empty (blk_hd (by simp)) (by have h8:=Bp71.out.size;simpa using h8);have ORa82:=own_below ORp71 Ua82;have HTa82:Hid (T28 (wp71.alloc (.cells #[] 122))):=⟨Ka82.out.cell 0,Ka82.out.cell 1,Ka82.out.cell 2,Ka82.out.cell 3⟩;clear Ua82;refine jN 8 fun K' hK=>?_
   go_simp;refine hK.out _ _ HTa82.out ?_;clear hK K';refine jP ?_;have Qp113:=κ (HC.out _ Ba82.out);refine jN 11 fun K' hK=>?_
   refine step_appG (nm:=no) OEa82 Qp113 (by simp) rfl _ _ _ rfl i2 (.agg #[ι 0,ι 0,ι 0,.bool false,ι 0,ι 0,ι 0,ι 0,ι 0,ι 0,ι 0]) 88 Tryz.underlying108 hi2 hz0 hz1 hz2 rfl (by decide) rfl rfl HL2.out (ens_one bk.op) (by unfold maxLen;omega) (by omega) Ba82.out.size ?_;intro Xp113 yp113 wp113 Op113 hgp113;have Kp113:=κ (blk_own_grown Ka82.out OEa82.out (by decide) hgp113);have Rp113:=κ (blk_own_grown Ra82.out OEa82.out (by decide) hgp113);have Bp113:=κ (grown_below Ba82.out OEa82.out hgp113 τ Ba82.out.size);have OEp113:=κ Op113.out;have ORp113:=κ (own_grown ORa82.out OEa82.out (by decide) hgp113);have HTp113:Hid (T28 wp113):=⟨Kp113.out.cell 0,Kp113.out.cell 1,Kp113.out.cell 2,Kp113.out.cell 3⟩;clear hgp113 Op113;refine hK.out _ _ HTp113.out ?_;clear hK K';refine jP ?_;refine jA 12 HTp113.out ?_;have F3:Blk (st4 wp113 gZ (ι sh) (ι ca) (.slice Xp71 nr yp71) (.slice Xp113 no yp113)) gZ 110 (vB sh ca Xp71 nr yp71 Xp113 no yp113):=st4_blk Rp113.out;have BF:Below w.heap.size w (st4 wp113 gZ (ι sh) (ι ca) (.slice Xp71 nr yp71) (.slice Xp113 no yp113)):=st4_below Bp113.out hge.out;have OF1:=own_st4 ORp113.out Rp113.out (by decide) (v0:= ι sh) (v1:= ι ca) (v2:= .slice Xp71 nr yp71) (v3:= .slice Xp113 no yp113);have OF2:=own_st4 OEp113.out Rp113.out (by decide) (v0:= ι sh) (v1:= ι ca) (v2:= .slice Xp71 nr yp71) (v3:= .slice Xp113 no yp113)
   have hfin:MadeCp rl bk w (.returned (.agg (vB sh ca Xp71 nr yp71 Xp113 no yp113))) (st4 wp113 gZ (ι sh) (ι ca) (.slice Xp71 nr yp71) (.slice Xp113 no yp113)):=by
    refine⟨Xp71,Xp113,yp71,yp113,?_,⟨?_,?_,hm.out.e,fun i hi=>Rd.below' (hm.out.n i hi) BF BF.size⟩,BF⟩
    ·unfold bkA;rw[←hnr.out,←hno.out,←hsh.out.1,←hsh.out.2]
    ·rw[←hnr.out];simpa using OF1
    ·rw[←hno.out];simpa using OF2
   have HF:=κ hfin;clear hfin OF1 OF2 BF;obtain⟨z0,z1,z2,z3,g0,g1,g2,g3⟩:=z4_of Rp113.out;have PB0:=Rp113.out;have PB1:=ξ (blk_st PB0 0 (ι sh));have PB2:=ξ (blk_st PB1 1 (ι ca));have PB3:=ξ (blk_st PB2 2 (.slice Xp71 nr yp71));have PC1:=PB1.cell 1;have PC2:=PB2.cell 2;have PC3:=PB3.cell 3;have PF1:=PB1.thaw 1;have PF2:=PB2.thaw 2;have PF3:=PB3.thaw 3;simp only[List.getElem?_toArray,List.getElem?_cons_succ,List.getElem?_cons_zero]at PC1 PC2 PC3;clear PB0 PB1 PB2 PB3;refine jV 13 fun K' hK=>?_
   go_simp;refine hK.out _ _ ?_;clear hK K';refine jP ?_;refine Δ ?_
   go_wp2_with fail
   obtain⟨e0,e1,e2,e3⟩:=q4_of F3;clear F3;unfold st4 at e0 e1 e2 e3 HF;exact bodyPost_ret (v:= .agg #[ι sh,ι ca,.slice Xp71 nr yp71,.slice Xp113 no yp113]) (by simp[results,Tryz.results116,go_sem,e0,e1,e2,e3]) rfl HF.out
  ·intro K' hK;have Ua85:=β (w0.drew.alloc (.cells #[] 153)) (.cells #[] 122);have Ka85:=κ (Blk.below' Ka40.out Ua85);have Ra85:=κ (Blk.below' Ra40.out Ua85);have Ba85:=κ (CrdB.below_step Ba40.out Ua85);have OEa85:Hid (World.ownsRow ((w0.drew.alloc (.cells #[] 153)).alloc (.cells #[] 122)) w.heap.size 122 11 (.slice (some (α (w0.heap.size+1) 0)) 0 0) 0 []):=own_empty (blk_hd (by simp)) (by have h8:=Ba40.out.size;simpa using h8);have ORa85:=own_below ORa40 Ua85;have HTa85:Hid (T28 ((w0.drew.alloc (.cells #[] 153)).alloc (.cells #[] 122))):=⟨Ka85.out.cell 0,Ka85.out.cell 1,Ka85.out.cell 2,Ka85.out.cell 3⟩;clear Ua85;go_simp;refine hK.out _ _ HTa85.out ?_;clear hK K';refine jP ?_;have Qp76:=κ (HR.out _ Ba85.out);refine jN 7 fun K' hK=>?_
   refine step_appG (nm:=nr) ORa85 Qp76 (by simp) rfl _ _ _ rfl i1 (.agg #[.slice none 0 0,ι 0,ι 0]) 40 Tryz.underlying107 hi1 hy0 hy1 hy2 rfl (by decide) rfl rfl HL1.out (rcs_one rl) (by unfold maxLen;omega) (by omega) Ba85.out.size ?_;intro Xp76 yp76 wp76 Op76 hgp76;have Kp76:=κ (blk_own_grown Ka85.out ORa85.out (by decide) hgp76);have Rp76:=κ (blk_own_grown Ra85.out ORa85.out (by decide) hgp76);have Bp76:=κ (grown_below Ba85.out ORa85.out hgp76 τ Ba85.out.size);have ORp76:=κ Op76.out;have OEp76:=κ (own_grown OEa85.out ORa85.out (by decide) hgp76);have HTp76:Hid (T28 wp76):=⟨Kp76.out.cell 0,Kp76.out.cell 1,Kp76.out.cell 2,Kp76.out.cell 3⟩;clear hgp76 Op76;refine hK.out _ _ HTp76.out ?_;clear hK K';refine jP ?_;have Qp117:=κ (HC.out _ Bp76.out);refine jN 11 fun K' hK=>?_
   refine step_appG (nm:=no) OEp76 Qp117 (by simp) rfl _ _ _ rfl i2 (.agg #[ι 0,ι 0,ι 0,.bool false,ι 0,ι 0,ι 0,ι 0,ι 0,ι 0,ι 0]) 88 Tryz.underlying108 hi2 hz0 hz1 hz2 rfl (by decide) rfl rfl HL2.out (ens_one bk.op) (by unfold maxLen;omega) (by omega) Bp76.out.size ?_;intro Xp117 yp117 wp117 Op117 hgp117;have Kp117:=κ (blk_own_grown Kp76.out OEp76.out (by decide) hgp117);have Rp117:=κ (blk_own_grown Rp76.out OEp76.out (by decide) hgp117);have Bp117:=κ (grown_below Bp76.out OEp76.out hgp117 τ Bp76.out.size);have OEp117:=κ Op117.out;have ORp117:=κ (own_grown ORp76.out OEp76.out (by decide) hgp117);have HTp117:Hid (T28 wp117):=⟨Kp117.out.cell 0,Kp117.out.cell 1,Kp117.out.cell 2,Kp117.out.cell 3⟩;clear hgp117 Op117;refine hK.out _ _ HTp117.out ?_;clear hK K';refine jP ?_;refine jA 12 HTp117.out ?_;have F3:Blk (st4 wp117 gZ (ι sh) (ι ca) (.slice Xp76 nr yp76) (.slice Xp117 no yp117)) gZ 110 (vB sh ca Xp76 nr yp76 Xp117 no yp117):=st4_blk Rp117.out;have BF:Below w.heap.size w (st4 wp117 gZ (ι sh) (ι ca) (.slice Xp76 nr yp76) (.slice Xp117 no yp117)):=st4_below Bp117.out hge.out;have OF1:=own_st4 ORp117.out Rp117.out (by decide) (v0:= ι sh) (v1:= ι ca) (v2:= .slice Xp76 nr yp76) (v3:= .slice Xp117 no yp117);have OF2:=own_st4 OEp117.out Rp117.out (by decide) (v0:= ι sh) (v1:= ι ca) (v2:= .slice Xp76 nr yp76) (v3:= .slice Xp117 no yp117)
   have hfin:MadeCp rl bk w (.returned (.agg (vB sh ca Xp76 nr yp76 Xp117 no yp117))) (st4 wp117 gZ (ι sh) (ι ca) (.slice Xp76 nr yp76) (.slice Xp117 no yp117)):=by
    refine⟨Xp76,Xp117,yp76,yp117,?_,⟨?_,?_,hm.out.e,fun i hi=>Rd.below' (hm.out.n i hi) BF BF.size⟩,BF⟩
    ·unfold bkA;rw[←hnr.out,←hno.out,←hsh.out.1,←hsh.out.2]
    ·rw[←hnr.out];simpa using OF1
    ·rw[←hno.out];simpa using OF2
   have HF:=κ hfin;clear hfin OF1 OF2 BF;obtain⟨z0,z1,z2,z3,g0,g1,g2,g3⟩:=z4_of Rp117.out;have PB0:=Rp117.out;have PB1:=ξ (blk_st PB0 0 (ι sh));have PB2:=ξ (blk_st PB1 1 (ι ca));have PB3:=ξ (blk_st PB2 2 (.slice Xp76 nr yp76));have PC1:=PB1.cell 1;have PC2:=PB2.cell 2;have PC3:=PB3.cell 3;have PF1:=PB1.thaw 1;have PF2:=PB2.thaw 2;have PF3:=PB3.thaw 3;simp only[List.getElem?_toArray,List.getElem?_cons_succ,List.getElem?_cons_zero]at PC1 PC2 PC3;clear PB0 PB1 PB2 PB3;refine jV 13 fun K' hK=>?_
   go_simp;refine hK.out _ _ ?_;clear hK K';refine jP ?_;refine Δ ?_
   go_wp2_with fail
   obtain⟨e0,e1,e2,e3⟩:=q4_of F3;clear F3;unfold st4 at e0 e1 e2 e3 HF;exact bodyPost_ret (v:= .agg #[ι sh,ι ca,.slice Xp76 nr yp76,.slice Xp117 no yp117]) (by simp[results,Tryz.results116,go_sem,e0,e1,e2,e3]) rfl HF.out
 ·intro K' hK;have Ua88:=β w0.drew (.cells #[] 122);have Ka88:=κ (Blk.below' K1d.out Ua88);have Ra88:=κ (Blk.below' R1d.out Ua88);have Ba88:=κ (CrdB.below_step B1d.out Ua88);have OEa88:Hid (World.ownsRow (w0.drew.alloc (.cells #[] 122)) w.heap.size 122 11 (.slice (some (α w0.heap.size 0)) 0 0) 0 []):=own_empty (blk_hd (by simp)) (by have h8:=B1d.out.size;simpa using h8);have HTa88:Hid (T28 (w0.drew.alloc (.cells #[] 122))):=⟨Ka88.out.cell 0,Ka88.out.cell 1,Ka88.out.cell 2,Ka88.out.cell 3⟩;clear Ua88;go_simp;refine hK.out _ _ HTa88.out ?_;clear hK K';refine jP ?_;have Ua49:=β (w0.drew.alloc (.cells #[] 122)) (.cells #[] 153);have Ka49:=κ (Blk.below' Ka88.out Ua49);have Ra49:=κ (Blk.below' Ra88.out Ua49);have Ba49:=κ (CrdB.below_step Ba88.out Ua49);have ORa49:Hid (World.ownsRow ((w0.drew.alloc (.cells #[] 122)).alloc (.cells #[] 153)) w.heap.size 153 3 (.slice (some (α (w0.heap.size+1) 0)) 0 0) 0 []):=own_empty (blk_hd (by simp)) (by have h8:=Ba88.out.size;simpa using h8);have OEa49:=own_below OEa88 Ua49;have HTa49:Hid (T28 ((w0.drew.alloc (.cells #[] 122)).alloc (.cells #[] 153))):=⟨Ka49.out.cell 0,Ka49.out.cell 1,Ka49.out.cell 2,Ka49.out.cell 3⟩;clear Ua49;refine jN 4 fun K' hK=>?_
  go_simp;refine hK.out _ _ HTa49.out ?_;clear hK K';refine jP ?_;have Qp710:=κ (HR.out _ Ba49.out);refine jN 7 fun K' hK=>?_
  refine step_appG (nm:=nr) ORa49 Qp710 (by simp) rfl _ _ _ rfl i1 (.agg #[.slice none 0 0,ι 0,ι 0]) 40 Tryz.underlying107 hi1 hy0 hy1 hy2 rfl (by decide) rfl rfl HL1.out (rcs_one rl) (by unfold maxLen;omega) (by omega) Ba49.out.size ?_;intro Xp710 yp710 wp710 Op710 hgp710;have Kp710:=κ (blk_own_grown Ka49.out ORa49.out (by decide) hgp710);have Rp710:=κ (blk_own_grown Ra49.out ORa49.out (by decide) hgp710);have Bp710:=κ (grown_below Ba49.out ORa49.out hgp710 τ Ba49.out.size);have ORp710:=κ Op710.out;have OEp710:=κ (own_grown OEa49.out ORa49.out (by decide) hgp710);have HTp710:Hid (T28 wp710):=⟨Kp710.out.cell 0,Kp710.out.cell 1,Kp710.out.cell 2,Kp710.out.cell 3⟩;clear hgp710 Op710;refine hK.out _ _ HTp710.out ?_;clear hK K';refine jP ?_;have Qp1111:=κ (HC.out _ Bp710.out);refine jN 11 fun K' hK=>?_
  refine step_appG (nm:=no) OEp710 Qp1111 (by simp) rfl _ _ _ rfl i2 (.agg #[ι 0,ι 0,ι 0,.bool false,ι 0,ι 0,ι 0,ι 0,ι 0,ι 0,ι 0]) 88 Tryz.underlying108 hi2 hz0 hz1 hz2 rfl (by decide) rfl rfl HL2.out (ens_one bk.op) (by unfold maxLen;omega) (by omega) Bp710.out.size ?_;intro Xp1111 yp1111 wp1111 Op1111 hgp1111;have Kp1111:=κ (blk_own_grown Kp710.out OEp710.out (by decide) hgp1111);have Rp1111:=κ (blk_own_grown Rp710.out OEp710.out (by decide) hgp1111);have Bp1111:=κ (grown_below Bp710.out OEp710.out hgp1111 τ Bp710.out.size);have OEp1111:=κ Op1111.out;have ORp1111:=κ (own_grown ORp710.out OEp710.out (by decide) hgp1111);have HTp1111:Hid (T28 wp1111):=⟨Kp1111.out.cell 0,Kp1111.out.cell 1,Kp1111.out.cell 2,Kp1111.out.cell 3⟩;clear hgp1111 Op1111;refine hK.out _ _ HTp1111.out ?_;clear hK K';refine jP ?_;refine jA 12 HTp1111.out ?_;have F3:Blk (st4 wp1111 gZ (ι sh) (ι ca) (.slice Xp710 nr yp710) (.slice Xp1111 no yp1111)) gZ 110 (vB sh ca Xp710 nr yp710 Xp1111 no yp1111):=st4_blk Rp1111.out;have BF:Below w.heap.size w (st4 wp1111 gZ (ι sh) (ι ca) (.slice Xp710 nr yp710) (.slice Xp1111 no yp1111)):=st4_below Bp1111.out hge.out;have OF1:=own_st4 ORp1111.out Rp1111.out (by decide) (v0:= ι sh) (v1:= ι ca) (v2:= .slice Xp710 nr yp710) (v3:= .slice Xp1111 no yp1111);have OF2:=own_st4 OEp1111.out Rp1111.out (by decide) (v0:= ι sh) (v1:= ι ca) (v2:= .slice Xp710 nr yp710) (v3:= .slice Xp1111 no yp1111)
  have hfin:MadeCp rl bk w (.returned (.agg (vB sh ca Xp710 nr yp710 Xp1111 no yp1111))) (st4 wp1111 gZ (ι sh) (ι ca) (.slice Xp710 nr yp710) (.slice Xp1111 no yp1111)):=by
   refine⟨Xp710,Xp1111,yp710,yp1111,?_,⟨?_,?_,hm.out.e,fun i hi=>Rd.below' (hm.out.n i hi) BF BF.size⟩,BF⟩
   ·unfold bkA;rw[←hnr.out,←hno.out,←hsh.out.1,←hsh.out.2]
   ·rw[←hnr.out];simpa using OF1
   ·rw[←hno.out];simpa using OF2
  have HF:=κ hfin;clear hfin OF1 OF2 BF;obtain⟨z0,z1,z2,z3,g0,g1,g2,g3⟩:=z4_of Rp1111.out;have PB0:=Rp1111.out;have PB1:=ξ (blk_st PB0 0 (ι sh));have PB2:=ξ (blk_st PB1 1 (ι ca));have PB3:=ξ (blk_st PB2 2 (.slice Xp710 nr yp710));have PC1:=PB1.cell 1;have PC2:=PB2.cell 2;have PC3:=PB3.cell 3;have PF1:=PB1.thaw 1;have PF2:=PB2.thaw 2;have PF3:=PB3.thaw 3;simp only[List.getElem?_toArray,List.getElem?_cons_succ,List.getElem?_cons_zero]at PC1 PC2 PC3;clear PB0 PB1 PB2 PB3;refine jV 13 fun K' hK=>?_
  go_simp;refine hK.out _ _ ?_;clear hK K';refine jP ?_;refine Δ ?_
  go_wp2_with fail
  obtain⟨e0,e1,e2,e3⟩:=q4_of F3;clear F3;unfold st4 at e0 e1 e2 e3 HF;exact bodyPost_ret (v:= .agg #[ι sh,ι ca,.slice Xp710 nr yp710,.slice Xp1111 no yp1111]) (by simp[results,Tryz.results116,go_sem,e0,e1,e2,e3]) rfl HF.out
end Rbc
namespace Rbl
theorem rlook7_any(sk wi ra ta:Int)(A1 A2 A3:Option Addr)(n1 n2 n3 c1 c2 c3:Nat)(A C:Option Addr)(nr no c d:Nat)(rl:List Rc)(bk:Bk)(od:Od)(w:World)(sh ca:Int)(hsh:Hid (sh=bk.sh∧ca=bk.ca))(hnr:Hid (nr=bk.rows.length))(hno:Hid (no=bk.op.length))(hm:Hid (Bm w A C rl bk))(hf:Hid (FewB bk))(hin0:inQ nr od.a=true):
  Calls Tryz.prog 85 #[.agg #[.int .i64 sk,.int .i64 wi,.int .i64 ra,.int .i64 ta,.slice A1 n1 c1,.slice A2 n2 c2,.slice A3 n3 c3],.agg #[.int .i64 sh,.int .i64 ca,.slice A nr c,.slice C no d],odA od] w (fun r w'=>r= .returned (.int .i64 (lookF ra ta bk od))∧Below w.heap.size w w'):=by
 obtain⟨a,s,x,p,q,n,t⟩:=od;show Calls Tryz.prog 85 #[.agg #[.int .i64 sk,.int .i64 wi,.int .i64 ra,.int .i64 ta,.slice A1 n1 c1,.slice A2 n2 c2,.slice A3 n3 c3],.agg #[.int .i64 sh,.int .i64 ca,.slice A nr c,.slice C no d],.agg #[.int .i64 a,.int .i64 s,.bool x,.int .i64 p,.int .i64 q,.int .i64 n,.int .i64 t]] w (fun r w'=>r= .returned (.int .i64 (lookF ra ta bk ⟨a,s,x,p,q,n,t⟩))∧Below w.heap.size w w');have b0:Hid (Below w.heap.size w (((w.alloc (.cells (vC sk wi ra ta A1 n1 c1 A2 n2 c2 A3 n3 c3) 30)).alloc (.cells (vB sh ca A nr c C no d) 110)).alloc (.cells (vO a s x p q n t) 47))):=((ψ.alloc τ _).alloc (by simp) _).alloc (by simp<;>omega) _;have K0:Hid (Blk (((w.alloc (.cells (vC sk wi ra ta A1 n1 c1 A2 n2 c2 A3 n3 c3) 30)).alloc (.cells (vB sh ca A nr c C no d) 110)).alloc (.cells (vO a s x p q n t) 47)) w.heap.size 30 (vC sk wi ra ta A1 n1 c1 A2 n2 c2 A3 n3 c3)):=((Blk.fresh w _ _).alloc _).alloc _;have K1:Hid (Blk (((w.alloc (.cells (vC sk wi ra ta A1 n1 c1 A2 n2 c2 A3 n3 c3) 30)).alloc (.cells (vB sh ca A nr c C no d) 110)).alloc (.cells (vO a s x p q n t) 47)) (w.heap.size+1) 110 (vB sh ca A nr c C no d)):=Blk.alloc (blk_hd (by simp)) _;have K2:=κ (δ ((w.alloc (.cells (vC sk wi ra ta A1 n1 c1 A2 n2 c2 A3 n3 c3) 30)).alloc (.cells (vB sh ca A nr c C no d) 110)) 47 (vO a s x p q n t) (w.heap.size+2));have HM:=κ (hm.out.below b0.out)
 go_enter Tryz.func85,Tryz.ntmps85
 go_upto_region 1 with fail
 clear hm;generalize (((w.alloc (.cells (vC sk wi ra ta A1 n1 c1 A2 n2 c2 A3 n3 c3) 30)).alloc (.cells (vB sh ca A nr c C no d) 110)).alloc (.cells (vO a s x p q n t) 47))=w0 at b0 K0 K1 K2 HM ⊢;obtain⟨gCf,hgCf⟩:=ν w.heap.size;obtain⟨gB,hgB⟩:=ν (w.heap.size+1);obtain⟨gO,hgO⟩:=ν (w.heap.size+2);have J0:=κ (ζ hgCf K0.out);have J1:=κ (ζ hgB K1.out);have J2:=κ (ζ hgO K2.out);simp only[←hgO];simp only[←hgB];simp only[←hgCf];clear hgCf hgB hgO K0 K1 K2;obtain⟨e0,e1,e2,e3,e4,e5,e6⟩:=q7_of J0.out;obtain⟨k0,k1,k2,k3⟩:=q4_of J1.out;obtain⟨o0,o1,o2,o3,o4,o5,o6⟩:=q7_of J2.out;have hin:=ξ hin0;have hia:=inQ_of hin;obtain⟨i,hi⟩: ∃i:Nat,a=i:=⟨a.toNat,by omega⟩;subst hi;have hlt:i<nr:=by omega
 have HIN:=κ hin;clear hin hia;have hlr:Hid (i<rl.length):=by show _<_;rw[HM.out.len,←hnr.out];exact hlt
 obtain⟨b,o,hA,hb,hcc⟩:=Rcs.at HM.out.r (by have:=hlr.out;omega);have hcs:=hcc i hlr.out;have HR:=κ (gC_row HM.out.e hlr.out);have HN:=κ (HM.out.n i hlr.out);have HL:=κ (hf.out.nl i (by rw[←hnr.out];exact hlt));subst hA
 have HLK:Hid (lookF ra ta bk ⟨(i:Int),s,x,p,q,n,t⟩=(if (gR bk.rows i).ns.contains n=true then 9
  else if t<(gR bk.rows i).sec then 10
  else if t=(gR bk.rows i).sec∧ra≤(gR bk.rows i).cnt then 10
  else if ta≤bk.op.length then 11 else 0)):=by
  show _=_;unfold lookF;rw[←hnr.out];simp only[];rw[if_pos HIN.out,Int.toNat_natCast]
 rw[←HR.out]at HLK HL;rw[←hno.out]at HLK;clear hcc HIN HR HM;generalize gC rl i=R at hcs HN HL HLK;obtain⟨An,cn,ns,sec,cnt⟩:=R;obtain⟨r0,r1,r2⟩:=hcs;simp only[]at r0 r1 r2 HN HL HLK;obtain⟨nn,hnn⟩:=ν ns.length;rw[←hnn]at r0 HL;have HNN:=κ hnn;clear hnn;have bA:=κ (b0.out.alloc b0.out.size (.cells (vR An nn cn sec cnt) 153));have KA:=κ (Blk.fresh w0 153 (vR An nn cn sec cnt));have U0:=β w0 (.cells (vR An nn cn sec cnt) 153);have L0:=κ (Blk.below' J0.out U0);have L1:=κ (Blk.below' J1.out U0);have L2:=κ (Blk.below' J2.out U0);have HNA:=η HN.out U0;have tlt:decide ((i:Int)<(nr:Int))=true:=by simp;omega
 go_upto_region 2 with fail
 clear U0 J0 J1 J2 HN e0 e1 e2 e3 e4 e5 e6 k0 k1 k2 k3 o0 o1 o2 o3 o4 o5 o6 b0;generalize w0.alloc (.cells (vR An nn cn sec cnt) 153)=w2 at bA KA L0 L1 L2 HNA ⊢;generalize w0.heap.size=gR' at KA ⊢;obtain⟨e0,e1,e2,e3,e4,e5,e6⟩:=q7_of L0.out;obtain⟨k0,k1,k2,k3⟩:=q4_of L1.out;obtain⟨o0,o1,o2,o3,o4,o5,o6⟩:=q7_of L2.out;obtain⟨m0,m1,m2⟩:=q3_of KA.out;clear e0 e1 e2 e3 e4 e5 e6 k0 k1 k2 k3 o0 o1 o2 o3 o4 o5 o6 m0 m1 m2
 go_wp2_with fail
 go_loopg [8] nn (fun g s8 w'=> ∃j:Nat,j+g=nn∧s8= ι j∧Hid (∀k,k<j→gI ns k≠n)∧Hid (Blk w' gR' 153 (vR An nn cn sec cnt))∧Hid (Blk w' gCf 30 (vC sk wi ra ta A1 n1 c1 A2 n2 c2 A3 n3 c3))∧Hid (Blk w' gB 110 (vB sh ca (some (α b o)) nr c C no d))∧Hid (Blk w' gO 47 (vO (i:Int) s x p q n t))∧Hid (Ris w' w'.heap.size An ns)∧Hid (Below w.heap.size w w'))
 case atStart=>exact⟨0,by omega,rfl,(fun k hk=>by omega),KA,L0,L1,L2,HNA,bA⟩
 case round=>
  clear KA L0 L1 L2 HNA bA;obtain⟨j,hj,rfl,HNJ,KA,L0,L1,L2,HNA,bA⟩:=hrel;obtain⟨e0,e1,e2,e3,e4,e5,e6⟩:=q7_of L0.out;obtain⟨k0,k1,k2,k3⟩:=q4_of L1.out;obtain⟨o0,o1,o2,o3,o4,o5,o6⟩:=q7_of L2.out;obtain⟨m0,m1,m2⟩:=q3_of KA.out;have hj9:=HL.out;by_cases hlt2:j<nn
  ·obtain⟨g9,rfl⟩: ∃g9,gk=g9+1:=⟨gk-1,by omega⟩;have t0:decide ((j:Int)<(nn:Int))=true:=by simp;omega
   have hjl:j<ns.length:=by rw[←HNN.out];exact hlt2
   obtain⟨b9,o9,hA9,hb9,hcc9⟩:=Ris.at (i:=j) HNA.out hjl;have hc9:=hcc9 j hjl;subst hA9;obtain⟨xv,hxv⟩:=ν (gI ns j);rw[←hxv]at hc9;have HXV:=κ hxv;clear hxv hcc9;have KAd:=κ (ε KA.out);have L0d:=κ (ε L0.out);have L1d:=κ (ε L1.out);have L2d:=κ (ε L2.out);have HNAd:Hid (Ris wr.drew wr.drew.heap.size (some (α b9 o9)) ns):=HNA.out;have bAd:=κ (Below.drew bA.out)
   go_upto_region 5 with fail
   let T108:World→Prop:=fun w'=>w'.cell? (α gR' 0)=some (.slice (some (α b9 o9)) nn cn)∧w'.cell? (α gO 5)=some (ι n)∧w'.cell? (α b9 (o9+j))=some (ι xv)
   have HT:Hid (T108 (wr.drew)):=⟨KAd.out.cell 0,L2d.out.cell 5,hc9⟩;refine Ω T108 [] ?_;refine jA 0 HT.out ?_;refine jB 1 HT.out ?_;refine jA 2 HT.out ?_;refine jA 3 HT.out ?_;refine jB 4 HT.out ?_;refine jA 5 HT.out ?_;refine jB 6 HT.out ?_;refine jA 7 HT.out ?_;refine Δ ?_;clear HT e0 e1 e2 e3 e4 e5 e6 k0 k1 k2 k3 o0 o1 o2 o3 o4 o5 o6 m0 m1 m2 hc9 KA L0 L1 L2 HNA bA;by_cases hv:xv=n
   ·have t1:(xv==n)=true:=by simp[hv]
    have hfin:Hid (lookF ra ta bk ⟨(i:Int),s,x,p,q,n,t⟩=9):=by
     show _=_;rw[HLK.out,if_pos]
     have hm1:n∈ns:=by
      rw[←hv,HXV.out];simp[gI,hjl]
     simp[hm1]
    clear hv
    go_wp2_with fail
    go_ret;exact⟨congrArg Ending.returned (congrArg (Value.int .i64) hfin.out.symm),bAd.out⟩
   ·have t1:(xv==n)=false:=by simp[hv]
    have hno':Hid (∀k,k<j+1→gI ns k≠n):=by
     intro k hk;by_cases hkj:k=j
     ·subst hkj;rw[←HXV.out];exact hv
     ·exact HNJ.out k (by omega)
    clear hv
    go_wp2_with fail
    go_roundg g9
    case measure=>omega
    case rel=>exact⟨j+1,by omega,by rw[Int.natCast_add];rfl,hno',KAd,L0d,L1d,L2d,HNAd,bAd⟩
  ·have t0:decide ((j:Int)<(nn:Int))=false:=by simp;omega
   have c1: ¬ns.contains n=true:=by
    intro hm1;have hm2:n∈ns:=by simpa using hm1
    obtain⟨k,hk,he⟩:=List.mem_iff_getElem.1 hm2;refine HNJ.out k (by have:=HNN.out;omega) ?_;simp[gI,hk,he]
   have HL2:Hid (lookF ra ta bk ⟨(i:Int),s,x,p,q,n,t⟩=(if t<sec then 10 else if t=sec∧ra≤cnt then 10 else if ta≤(no:Int) then 11 else 0)):=by show _=_;rw[HLK.out,if_neg c1]
   clear c1 HLK;by_cases c2:t<sec
   ·have t2:decide (t<sec)=true:=by simp[c2]
    have hfin:Hid (lookF ra ta bk ⟨(i:Int),s,x,p,q,n,t⟩=10):=by show _=_;rw[HL2.out,if_pos c2]
    go_wp2_with fail
    go_ret;exact⟨congrArg Ending.returned (congrArg (Value.int .i64) hfin.out.symm),bA.out⟩
   ·have t2:decide (t<sec)=false:=by simp[c2]
    by_cases c3:t=sec
    ·have t3:(t==sec)=true:=by simp[c3]
     by_cases c4:ra≤cnt
     ·have t4:decide (ra≤cnt)=true:=by simp[c4]
      have hfin:Hid (lookF ra ta bk ⟨(i:Int),s,x,p,q,n,t⟩=10):=by show _=_;rw[HL2.out,if_neg c2,if_pos ⟨c3,c4⟩]
      clear c3
      go_wp2_with fail
      go_ret;exact⟨congrArg Ending.returned (congrArg (Value.int .i64) hfin.out.symm),bA.out⟩
     ·have t4:decide (ra≤cnt)=false:=by simp[c4]
      by_cases c5:ta≤(no:Int)
      ·have t5:decide (ta≤(no:Int))=true:=by simp[c5]
       have hfin:Hid (lookF ra ta bk ⟨(i:Int),s,x,p,q,n,t⟩=11):=by show _=_;rw[HL2.out,if_neg c2,if_neg (fun h=>c4 h.2),if_pos c5]
       clear c3
       go_wp2_with fail
       go_ret;exact⟨congrArg Ending.returned (congrArg (Value.int .i64) hfin.out.symm),bA.out⟩
      ·have t5:decide (ta≤(no:Int))=false:=by simp[c5]
       have hfin:Hid (lookF ra ta bk ⟨(i:Int),s,x,p,q,n,t⟩=0):=by show _=_;rw[HL2.out,if_neg c2,if_neg (fun h=>c4 h.2),if_neg c5]
       clear c3
       go_wp2_with fail
       go_ret;exact⟨congrArg Ending.returned (congrArg (Value.int .i64) hfin.out.symm),bA.out⟩
    ·have t3:(t==sec)=false:=by simp[c3]
     by_cases c5:ta≤(no:Int)
     ·have t5:decide (ta≤(no:Int))=true:=by simp[c5]
      have hfin:Hid (lookF ra ta bk ⟨(i:Int),s,x,p,q,n,t⟩=11):=by show _=_;rw[HL2.out,if_neg c2,if_neg (fun h=>c3 h.1),if_pos c5]
      go_wp2_with fail
      go_ret;exact⟨congrArg Ending.returned (congrArg (Value.int .i64) hfin.out.symm),bA.out⟩
     ·have t5:decide (ta≤(no:Int))=false:=by simp[c5]
      have hfin:Hid (lookF ra ta bk ⟨(i:Int),s,x,p,q,n,t⟩=0):=by show _=_;rw[HL2.out,if_neg c2,if_neg (fun h=>c3 h.1),if_neg c5]
      go_wp2_with fail
      go_ret;exact⟨congrArg Ending.returned (congrArg (Value.int .i64) hfin.out.symm),bA.out⟩
end Rbl
end Go.Proofs.YtfbajlcljfjbkaaGreat
