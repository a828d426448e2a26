/- Texts side by side. -/
import Derived.Test.YtcccdikhfgpamaaGreatUfax
import Derived.Test.YtcccdikhfgpamaaGreatUfbm
set_option linter.unusedVariables false
set_option linter.unusedSimpArgs false
set_option maxRecDepth 100000
set_option maxHeartbeats 16000000
namespace Go.Proofs.YtcccdikhfgpamaaGreat
open Kap Go.RowKit Mem Tre Ref3 Law3 Fix3 CrdB
namespace Tl5
open Abv Go.ChangeShapes Go.WideShapes Go.ChangeAt Opn Bnd Flo Cfg CrdC Rr4 Fr4 Rul1 Rul3 St7 Rul6 Fcf Fown Rul7
attribute [local go_sem] run_store_float
structure CfV(W:World)(g:Nat)(te:TypeId)(A B C:Option Addr)(sh wi ra ta:Int)(n m k c d f:Nat)(nd:List (Int×Int))(ac:List Int)(sy:List (Int×Int×Int×Nat)):Prop where
 blk:Blk W g te #[.int .i64 sh,.int .i64 wi,.int .i64 ra,.int .i64 ta,.slice A n c,.slice B m d,.slice C k f]
 nds:Nds W W.heap.size A nd
 ris:Ris W W.heap.size B ac
 smb:Smb W W.heap.size C sy
variable {ra sh ta wi:Int} {nd:List (Int×Int)} {sy:List (Int×Int×Int×Nat)} {ac:List Int} {c d f g k m n:Nat} {A B C:Option Addr} {te:TypeId} {W:World}
theorem CfV.below{W':World}(h:CfV W g te A B C sh wi ra ta n m k c d f nd ac sy)(hb:Below W.heap.size W W'):CfV W' g te A B C sh wi ra ta n m k c d f nd ac sy:=
 ⟨Blk.below' h.blk hb,Rd.below' h.nds hb hb.size,Rd.below' h.ris hb hb.size,Rd.below' h.smb hb hb.size⟩
theorem CfV.alloc(h:CfV W g te A B C sh wi ra ta n m k c d f nd ac sy)(o:Obj):CfV (W.alloc o) g te A B C sh wi ra ta n m k c d f nd ac sy:=
 h.below (ψ.alloc τ _)
def C7(W:World)(g:Nat)(v0 v1 v2 v3 v4 v5 v6:Value):Prop:=
 W.cell? ⟨g,0,none⟩=some v0∧W.cell? ⟨g,1,none⟩=some v1∧W.cell? ⟨g,2,none⟩=some v2∧W.cell? ⟨g,3,none⟩=some v3∧W.cell? ⟨g,4,none⟩=some v4∧W.cell? ⟨g,5,none⟩=some v5∧W.cell? ⟨g,6,none⟩=some v6
theorem c7_of{v0 v1 v2 v3 v4 v5 v6:Value}(hk:Blk W g te #[v0,v1,v2,v3,v4,v5,v6]):
  W.cell? ⟨g,0,none⟩=some v0∧W.cell? ⟨g,1,none⟩=some v1∧W.cell? ⟨g,2,none⟩=some v2∧W.cell? ⟨g,3,none⟩=some v3∧W.cell? ⟨g,4,none⟩=some v4∧W.cell? ⟨g,5,none⟩=some v5∧W.cell? ⟨g,6,none⟩=some v6:=
 ⟨hk.cell 0,hk.cell 1,hk.cell 2,hk.cell 3,hk.cell 4,hk.cell 5,hk.cell 6⟩
theorem wfn_fix(nd:List (Int×Int)):WfN (fixF nd):=okt_wf (okt_fixF nd) (by have:=fixF_len nd;omega)
theorem wfi_fix(h:1≤n)(h':n≤1000):WfI (fixA n ac):=by
 intro i b;have a:=fixA_in (n:=n) (ac:=ac) h h';unfold accB at a;have:=inR_of (of_decide_eq_true a i b);exact⟨by omega,by omega⟩
theorem wfs_fix(hw:WfS sy):WfS (fixS sy):=by
 intro i b;unfold fixS at b ⊢;split at b
 ·rename_i h0
  rw[if_pos h0];have:i=0:=by simp at b;omega
  subst this;exact⟨⟨by decide,by decide⟩,⟨by decide,by decide⟩,⟨by decide,by decide⟩,by decide⟩
 ·rename_i h0
  rw[if_neg h0];have l:i<(sy.take 3).length:=by simpa using b
  have a:i<sy.length:=by rw[List.length_take]at l;omega
  have e:((sy.take 3).map oneS).getD i (0,0,0,0)=oneS ((sy.take 3)[i]):=getD_map l;have o:(sy.take 3)[i]=sy[i]:=by simp
  have p:sy.getD i (0,0,0,0)=sy[i]:=by simp[a]
  obtain⟨_,_,h,j⟩:=hw i a;unfold sW at h;unfold sB at j;rw[p]at h j;unfold sP sQ sW sB;rw[e,o];have q:=modF_bd (x:=sy[i].1) (m:=1099511627776) (by decide) (by decide);have r:=modF_bd (x:=sy[i].2.1) (m:=1099511627776) (by decide) (by decide);unfold oneS;refine⟨⟨by show _≤1+_;omega,by show 1+_≤_;omega⟩,⟨by show _≤1+_;omega,by show 1+_≤_;omega⟩,?_,?_⟩
  ·show inI (if _ then _ else _);split
   ·exact⟨by decide,by decide⟩
   ·exact h
  ·show(if _ then _ else _)<_;split
   ·exact j
   ·decide
end Tl5
namespace Gdc
open Bnd Flo Cfg CrdC St7 Fcf Fown Rul7 Tl5
structure GoodC(sh wi ra ta:Int)(nd:List (Int×Int))(ac:List Int)(sy:List (Int×Int×Int×Nat)):Prop where
 cfg:cfgF sh wi ra ta nd ac sy=0
 wn:WfN nd
 wa:WfI ac
 ws:WfS sy
 n1:1≤nd.length
 n2:nd.length≤10
 a1:1≤ac.length
 a2:ac.length≤5
 s1:1≤sy.length
 s2:sy.length≤3
 h1:1≤sh
 h2:sh≤3
 w1:0≤wi
 w2:wi≤3
 r1:1≤ra
 r2:ra≤6
 t1:1≤ta
 t2:ta≤8
theorem good_fix(sh wi ra ta:Int)(nd:List (Int×Int))(ac:List Int)(sy:List (Int×Int×Int×Nat))(hw:WfS sy):
  GoodC (1+modF sh 3) (modF wi 4) (1+modF ra 6) (1+modF ta 8) (fixF nd) (fixA (fixF nd).length ac) (fixS sy):=by
 have a:=fixF_len nd;have b:=fixA_len (n:=(fixF nd).length) (ac:=ac);have c:=fixS_len (sy:=sy);have d:=modF_bd (x:=sh) (m:=3) (by decide) (by decide);have e:=modF_bd (x:=wi) (m:=4) (by decide) (by decide);have f:=modF_bd (x:=ra) (m:=6) (by decide) (by decide);have g:=modF_bd (x:=ta) (m:=8) (by decide) (by decide);exact⟨cfg_fix sh wi ra ta nd ac sy,wfn_fix nd,wfi_fix a.1 (by omega),wfs_fix hw,a.1,a.2,b.1,b.2,c.1,c.2,by omega,by omega,by omega,by omega,by omega,by omega,by omega,by omega⟩
end Gdc
namespace Wry
open Abv Go.ChangeShapes Go.WideShapes Go.ChangeAt Wpl Wmr Wrt Rul6 Tl5 Lax
attribute [local go_sem high] eqP12 eqQ12
attribute [local go_sem] undef
theorem s19{W:World}{gM gO:Nat}{te tf:TypeId}{v0 v1 v2 v3 v4 v5 v6 v7 v8 v9 v10 v11 r0 r1 r2 r3 r4 r5 r6:Value}(hM:Blk W gM te #[v0,v1,v2,v3,v4,v5,v6,v7,v8,v9,v10,v11])(hO:Blk W gO tf #[r0,r1,r2,r3,r4,r5,r6]):
  W.cell? ⟨gM,0,none⟩=some v0∧W.cell? ⟨gM,1,none⟩=some v1∧W.cell? ⟨gM,2,none⟩=some v2∧W.cell? ⟨gM,3,none⟩=some v3∧W.cell? ⟨gM,4,none⟩=some v4∧W.cell? ⟨gM,5,none⟩=some v5∧W.cell? ⟨gM,6,none⟩=some v6∧W.cell? ⟨gM,7,none⟩=some v7∧W.cell? ⟨gM,8,none⟩=some v8∧W.cell? ⟨gM,9,none⟩=some v9∧W.cell? ⟨gM,10,none⟩=some v10∧W.cell? ⟨gM,11,none⟩=some v11∧W.cell? ⟨gO,0,none⟩=some r0∧W.cell? ⟨gO,1,none⟩=some r1∧W.cell? ⟨gO,2,none⟩=some r2∧W.cell? ⟨gO,3,none⟩=some r3∧W.cell? ⟨gO,4,none⟩=some r4∧W.cell? ⟨gO,5,none⟩=some r5∧W.cell? ⟨gO,6,none⟩=some r6:=
 ⟨hM.cell 0,hM.cell 1,hM.cell 2,hM.cell 3,hM.cell 4,hM.cell 5,hM.cell 6,hM.cell 7,hM.cell 8,hM.cell 9,hM.cell 10,hM.cell 11,hO.cell 0,hO.cell 1,hO.cell 2,hO.cell 3,hO.cell 4,hO.cell 5,hO.cell 6⟩
theorem rr(k a s p q n t i y z v k2 a2 s2 p2 q2 n2 t2 i2 y2 z2 v2:Int)(x x2 res:Bool)(w:World)(hA:Hid (alM ⟨k,a,s,x,p,q,n,t,i,y,z,v⟩=⟨k2,a2,s2,x2,p2,q2,n2,t2,i2,y2,z2,v2⟩))(hres:Hid (res=(decide (0≤k)&&decide (k≤6)&&(eqM ⟨k2,a2,s2,x2,p2,q2,n2,t2,i2,y2,z2,v2⟩ ⟨k,a,s,x,p,q,n,t,i,y,z,v⟩)&&(decide (0≤a)&&decide (a≤65535))&&(decide (0≤s)&&decide (s≤65535))&&(decide (0≤z)&&decide (z≤65535))&&decide (0≤i)&&decide (i≤4294967295)&&decide (0≤p)&&decide (0≤q)&&decide (0≤n)&&decide (0≤t)&&decide (0≤y)&&decide (0≤v)))):
  Calls Tryz.prog 42 #[.agg #[.int .i64 k,.int .i64 a,.int .i64 s,.bool x,.int .i64 p,.int .i64 q,.int .i64 n,.int .i64 t,.int .i64 i,.int .i64 y,.int .i64 z,.int .i64 v]] w (MadeBl res w):=by
 have g:=κ (γ w (.cells (vM k a s x p q n t i y z v) 57) (.cells (vO a s x p q n t) 55));have F:=κ ((Blk.fresh w 57 (vM k a s x p q n t i y z v)).alloc (.cells (vO a s x p q n t) 55));have E:Hid (Blk ((w.alloc (.cells (vM k a s x p q n t i y z v) 57)).alloc (.cells (vO a s x p q n t) 55)) (w.heap.size+1) 55 (vO a s x p q n t)):=blk_at (by simp)
 go_enter Tryz.func42,Tryz.ntmps42
 go_upto_region 2 with fail
 generalize ((w.alloc (.cells (vM k a s x p q n t i y z v) 57)).alloc (.cells (vO a s x p q n t) 55))=G at g F E ⊢;generalize w.heap.size+1=r at E ⊢;obtain⟨m,o⟩:=ν w.heap.size;have I:=κ (ζ o F.o);have J:=E;clear F E;have A:Hid (Below G.heap.size G G.drew):=ψ.drew;have K:=s19 (Blk.below' I.o A.o) (Blk.below' J.o A.o);simp only[←o];have L:=κ o;clear o;simp only[List.append_eq,List.cons_append,List.nil_append];refine wp_region_held_drew (S:=(fun f=>f.cell? (α m 0)=some (ι k)∧f.cell? (α m 1)=some (ι a)∧f.cell? (α m 2)=some (ι s)∧f.cell? (α m 3)=some (.bool x)∧f.cell? (α m 4)=some (ι p)∧f.cell? (α m 5)=some (ι q)∧f.cell? (α m 6)=some (ι n)∧f.cell? (α m 7)=some (ι t)∧f.cell? (α m 8)=some (ι i)∧f.cell? (α m 9)=some (ι y)∧f.cell? (α m 10)=some (ι z)∧f.cell? (α m 11)=some (ι v)∧f.cell? (α r 0)=some (ι a)∧f.cell? (α r 1)=some (ι s)∧f.cell? (α r 2)=some (.bool x)∧f.cell? (α r 3)=some (ι p)∧f.cell? (α r 4)=some (ι q)∧f.cell? (α r 5)=some (ι n)∧f.cell? (α r 6)=some (ι t))) (by kernel_rfl) K (fun b=>?_);refine jT 0 ?_;refine jT 1 ?_;rcases Bool.eq_false_or_eq_true (decide (0≤k)) with ct0|ct0
 rotate_left
 ·refine jT 2 ?_;refine jT 3 ?_;refine jS 4 ?_;refine jS 5 ?_;refine jS 6 ?_;refine jT 7 ?_;refine jT 8 ?_;refine jS 9 ?_;refine jS 11 ?_;refine jS 10 ?_;refine jS 12 ?_;refine jT 13 ?_;refine jT 14 ?_;refine jS 15 ?_;refine jS 16 ?_;refine jS 17 ?_;refine jT 18 ?_;refine jT 19 ?_;refine jS 20 ?_;refine jS 21 ?_;refine jS 22 ?_;refine jT 23 ?_;refine jT 24 ?_;refine jS 25 ?_;refine jS 26 ?_;refine jS 27 ?_;refine jT 28 ?_;refine jT 29 ?_;refine jS 30 ?_;refine jS 31 ?_;refine jS 32 ?_;refine jT 33 ?_;refine jT 34 ?_;refine jS 35 ?_;refine jS 36 ?_;refine jS 37 ?_;refine jT 38 ?_;refine jT 39 ?_;refine jS 40 ?_;refine jS 41 ?_;refine jS 42 ?_;refine jT 43 ?_;refine jT 44 ?_;refine jS 45 ?_;refine jS 46 ?_;refine jS 47 ?_;refine jT 48 ?_;refine jT 49 ?_;refine jS 50 ?_;refine jS 51 ?_;refine jS 52 ?_;refine jT 53 ?_;refine jT 54 ?_;refine jS 55 ?_;refine jS 56 ?_;refine jS 57 ?_;refine jT 58 ?_;refine jT 59 ?_;refine jS 60 ?_;refine jS 61 ?_;refine jS 62 ?_;refine jT 63 ?_;refine jT 64 ?_;refine jS 65 ?_;refine jS 66 ?_;refine jS 67 ?_;refine jT 68 ?_;refine jT 69 ?_;refine wpAnyH_done (by kernel_rfl) ?_ _;have c:=below_step g.o A.o
  go_wp2_with fail
  go_ret;exact⟨by rw[hres.o,ct0];rfl,c⟩
 refine jT 2 ?_;refine jT 3 ?_;refine jT 4 ?_;refine jT 5 ?_;rcases Bool.eq_false_or_eq_true (decide (k≤6)) with ct1|ct1
 rotate_left
 ·refine jT 6 ?_;refine jT 7 ?_;refine jT 8 ?_;refine jS 9 ?_;refine jS 11 ?_;refine jS 10 ?_;refine jS 12 ?_;refine jT 13 ?_;refine jT 14 ?_;refine jS 15 ?_;refine jS 16 ?_;refine jS 17 ?_;refine jT 18 ?_;refine jT 19 ?_;refine jS 20 ?_;refine jS 21 ?_;refine jS 22 ?_;refine jT 23 ?_;refine jT 24 ?_;refine jS 25 ?_;refine jS 26 ?_;refine jS 27 ?_;refine jT 28 ?_;refine jT 29 ?_;refine jS 30 ?_;refine jS 31 ?_;refine jS 32 ?_;refine jT 33 ?_;refine jT 34 ?_;refine jS 35 ?_;refine jS 36 ?_;refine jS 37 ?_;refine jT 38 ?_;refine jT 39 ?_;refine jS 40 ?_;refine jS 41 ?_;refine jS 42 ?_;refine jT 43 ?_;refine jT 44 ?_;refine jS 45 ?_;refine jS 46 ?_;refine jS 47 ?_;refine jT 48 ?_;refine jT 49 ?_;refine jS 50 ?_;refine jS 51 ?_;refine jS 52 ?_;refine jT 53 ?_;refine jT 54 ?_;refine jS 55 ?_;refine jS 56 ?_;refine jS 57 ?_;refine jT 58 ?_;refine jT 59 ?_;refine jS 60 ?_;refine jS 61 ?_;refine jS 62 ?_;refine jT 63 ?_;refine jT 64 ?_;refine jS 65 ?_;refine jS 66 ?_;refine jS 67 ?_;refine jT 68 ?_;refine jT 69 ?_;refine wpAnyH_done (by kernel_rfl) ?_ _;have c:=below_step g.o A.o
  go_wp2_with fail
  go_ret;exact⟨by rw[hres.o,ct0,ct1];rfl,c⟩
 refine jT 6 ?_;refine jT 7 ?_;refine jT 8 ?_;refine jT 9 ?_;refine jT 11 ?_;refine wpAnyH_ready (rs:=[10]) (by kernel_rfl) (by simp) ?_;refine AllReadyH.cons rfl (fun l d=>?_) AllReadyH.nil;go_simp;refine(bare_any ⟨k,a,s,x,p,q,n,t,i,y,z,v⟩ _).mono ?_;rw[hA.o];rintro e O ⟨rfl,H⟩;rw[show mvl ⟨k2,a2,s2,x2,p2,q2,n2,t2,i2,y2,z2,v2⟩= .agg #[.int .i64 k2,.int .i64 a2,.int .i64 s2,.bool x2,.int .i64 p2,.int .i64 q2,.int .i64 n2,.int .i64 t2,.int .i64 i2,.int .i64 y2,.int .i64 z2,.int .i64 v2] from rfl];have h:=κ (below_step A.o H);have j:=s19 (Blk.below' I.o h.o) (Blk.below' J.o h.o)
 go_wp2_with fail
 refine d.out _ _ j (fun b=>?_);clear d l;refine jP ?_;rcases Bool.eq_false_or_eq_true (eqM ⟨k2,a2,s2,x2,p2,q2,n2,t2,i2,y2,z2,v2⟩ ⟨k,a,s,x,p,q,n,t,i,y,z,v⟩) with ct2|ct2
 rotate_left
 ·refine jT 12 ?_;refine jT 13 ?_;refine jT 14 ?_;refine jS 15 ?_;refine jS 16 ?_;refine jS 17 ?_;refine jT 18 ?_;refine jT 19 ?_;refine jS 20 ?_;refine jS 21 ?_;refine jS 22 ?_;refine jT 23 ?_;refine jT 24 ?_;refine jS 25 ?_;refine jS 26 ?_;refine jS 27 ?_;refine jT 28 ?_;refine jT 29 ?_;refine jS 30 ?_;refine jS 31 ?_;refine jS 32 ?_;refine jT 33 ?_;refine jT 34 ?_;refine jS 35 ?_;refine jS 36 ?_;refine jS 37 ?_;refine jT 38 ?_;refine jT 39 ?_;refine jS 40 ?_;refine jS 41 ?_;refine jS 42 ?_;refine jT 43 ?_;refine jT 44 ?_;refine jS 45 ?_;refine jS 46 ?_;refine jS 47 ?_;refine jT 48 ?_;refine jT 49 ?_;refine jS 50 ?_;refine jS 51 ?_;refine jS 52 ?_;refine jT 53 ?_;refine jT 54 ?_;refine jS 55 ?_;refine jS 56 ?_;refine jS 57 ?_;refine jT 58 ?_;refine jT 59 ?_;refine jS 60 ?_;refine jS 61 ?_;refine jS 62 ?_;refine jT 63 ?_;refine jT 64 ?_;refine jS 65 ?_;refine jS 66 ?_;refine jS 67 ?_;refine jT 68 ?_;refine jT 69 ?_;refine wpAnyH_done (by kernel_rfl) ?_ _;have c:=below_step g.o h.o
  go_wp2_with fail
  go_ret;exact⟨by rw[hres.o,ct0,ct1,ct2];rfl,c⟩
 refine jT 12 ?_;refine jT 13 ?_;refine jT 14 ?_;refine jT 15 ?_;refine jT 16 ?_;rcases Bool.eq_false_or_eq_true ((decide (0≤a)&&decide (a≤65535))) with ct3|ct3
 rotate_left
 ·refine wpAnyH_ready (rs:=[17]) (by kernel_rfl) (by simp) ?_;refine AllReadyH.cons rfl (fun l d=>?_) AllReadyH.nil;go_simp;refine(short_any _ _).mono ?_;rintro e C ⟨rfl,rfl⟩
  go_wp2_with fail
  refine d.out _ _ j (fun b=>?_);clear d l;refine jP ?_;refine jT 18 ?_;refine jT 19 ?_;refine jS 20 ?_;refine jS 21 ?_;refine jS 22 ?_;refine jT 23 ?_;refine jT 24 ?_;refine jS 25 ?_;refine jS 26 ?_;refine jS 27 ?_;refine jT 28 ?_;refine jT 29 ?_;refine jS 30 ?_;refine jS 31 ?_;refine jS 32 ?_;refine jT 33 ?_;refine jT 34 ?_;refine jS 35 ?_;refine jS 36 ?_;refine jS 37 ?_;refine jT 38 ?_;refine jT 39 ?_;refine jS 40 ?_;refine jS 41 ?_;refine jS 42 ?_;refine jT 43 ?_;refine jT 44 ?_;refine jS 45 ?_;refine jS 46 ?_;refine jS 47 ?_;refine jT 48 ?_;refine jT 49 ?_;refine jS 50 ?_;refine jS 51 ?_;refine jS 52 ?_;refine jT 53 ?_;refine jT 54 ?_;refine jS 55 ?_;refine jS 56 ?_;refine jS 57 ?_;refine jT 58 ?_;refine jT 59 ?_;refine jS 60 ?_;refine jS 61 ?_;refine jS 62 ?_;refine jT 63 ?_;refine jT 64 ?_;refine jS 65 ?_;refine jS 66 ?_;refine jS 67 ?_;refine jT 68 ?_;refine jT 69 ?_;refine wpAnyH_done (by kernel_rfl) ?_ _;have c:=below_step g.o h.o
  go_wp2_with fail
  go_ret;exact⟨by rw[hres.o,ct0,ct1,ct2,ct3];rfl,c⟩
 refine wpAnyH_ready (rs:=[17]) (by kernel_rfl) (by simp) ?_;refine AllReadyH.cons rfl (fun l d=>?_) AllReadyH.nil;go_simp;refine(short_any _ _).mono ?_;rintro e C ⟨rfl,rfl⟩
 go_wp2_with fail
 refine d.out _ _ j (fun b=>?_);clear d l;refine jP ?_;refine jT 18 ?_;refine jT 19 ?_;refine jT 20 ?_;refine jT 21 ?_;rcases Bool.eq_false_or_eq_true ((decide (0≤s)&&decide (s≤65535))) with ct4|ct4
 rotate_left
 ·refine wpAnyH_ready (rs:=[22]) (by kernel_rfl) (by simp) ?_;refine AllReadyH.cons rfl (fun l d=>?_) AllReadyH.nil;go_simp;refine(short_any _ _).mono ?_;rintro e C ⟨rfl,rfl⟩
  go_wp2_with fail
  refine d.out _ _ j (fun b=>?_);clear d l;refine jP ?_;refine jT 23 ?_;refine jT 24 ?_;refine jS 25 ?_;refine jS 26 ?_;refine jS 27 ?_;refine jT 28 ?_;refine jT 29 ?_;refine jS 30 ?_;refine jS 31 ?_;refine jS 32 ?_;refine jT 33 ?_;refine jT 34 ?_;refine jS 35 ?_;refine jS 36 ?_;refine jS 37 ?_;refine jT 38 ?_;refine jT 39 ?_;refine jS 40 ?_;refine jS 41 ?_;refine jS 42 ?_;refine jT 43 ?_;refine jT 44 ?_;refine jS 45 ?_;refine jS 46 ?_;refine jS 47 ?_;refine jT 48 ?_;refine jT 49 ?_;refine jS 50 ?_;refine jS 51 ?_;refine jS 52 ?_;refine jT 53 ?_;refine jT 54 ?_;refine jS 55 ?_;refine jS 56 ?_;refine jS 57 ?_;refine jT 58 ?_;refine jT 59 ?_;refine jS 60 ?_;refine jS 61 ?_;refine jS 62 ?_;refine jT 63 ?_;refine jT 64 ?_;refine jS 65 ?_;refine jS 66 ?_;refine jS 67 ?_;refine jT 68 ?_;refine jT 69 ?_;refine wpAnyH_done (by kernel_rfl) ?_ _;have c:=below_step g.o h.o
  go_wp2_with fail
  go_ret;exact⟨by rw[hres.o,ct0,ct1,ct2,ct3,ct4];rfl,c⟩
 refine wpAnyH_ready (rs:=[22]) (by kernel_rfl) (by simp) ?_;refine AllReadyH.cons rfl (fun l d=>?_) AllReadyH.nil;go_simp;refine(short_any _ _).mono ?_;rintro e C ⟨rfl,rfl⟩
 go_wp2_with fail
 refine d.out _ _ j (fun b=>?_);clear d l;refine jP ?_;refine jT 23 ?_;refine jT 24 ?_;refine jT 25 ?_;refine jT 26 ?_;rcases Bool.eq_false_or_eq_true ((decide (0≤z)&&decide (z≤65535))) with ct5|ct5
 rotate_left
 ·refine wpAnyH_ready (rs:=[27]) (by kernel_rfl) (by simp) ?_;refine AllReadyH.cons rfl (fun l d=>?_) AllReadyH.nil;go_simp;refine(short_any _ _).mono ?_;rintro e C ⟨rfl,rfl⟩
  go_wp2_with fail
  refine d.out _ _ j (fun b=>?_);clear d l;refine jP ?_;refine jT 28 ?_;refine jT 29 ?_;refine jS 30 ?_;refine jS 31 ?_;refine jS 32 ?_;refine jT 33 ?_;refine jT 34 ?_;refine jS 35 ?_;refine jS 36 ?_;refine jS 37 ?_;refine jT 38 ?_;refine jT 39 ?_;refine jS 40 ?_;refine jS 41 ?_;refine jS 42 ?_;refine jT 43 ?_;refine jT 44 ?_;refine jS 45 ?_;refine jS 46 ?_;refine jS 47 ?_;refine jT 48 ?_;refine jT 49 ?_;refine jS 50 ?_;refine jS 51 ?_;refine jS 52 ?_;refine jT 53 ?_;refine jT 54 ?_;refine jS 55 ?_;refine jS 56 ?_;refine jS 57 ?_;refine jT 58 ?_;refine jT 59 ?_;refine jS 60 ?_;refine jS 61 ?_;refine jS 62 ?_;refine jT 63 ?_;refine jT 64 ?_;refine jS 65 ?_;refine jS 66 ?_;refine jS 67 ?_;refine jT 68 ?_;refine jT 69 ?_;refine wpAnyH_done (by kernel_rfl) ?_ _;have c:=below_step g.o h.o
  go_wp2_with fail
  go_ret;exact⟨by rw[hres.o,ct0,ct1,ct2,ct3,ct4,ct5];rfl,c⟩
 refine wpAnyH_ready (rs:=[27]) (by kernel_rfl) (by simp) ?_;refine AllReadyH.cons rfl (fun l d=>?_) AllReadyH.nil;go_simp;refine(short_any _ _).mono ?_;rintro e C ⟨rfl,rfl⟩
 go_wp2_with fail
 refine d.out _ _ j (fun b=>?_);clear d l;refine jP ?_;refine jT 28 ?_;refine jT 29 ?_;refine jT 30 ?_;refine jT 31 ?_;rcases Bool.eq_false_or_eq_true (decide (0≤i)) with ct6|ct6
 rotate_left
 ·refine jT 32 ?_;refine jT 33 ?_;refine jT 34 ?_;refine jS 35 ?_;refine jS 36 ?_;refine jS 37 ?_;refine jT 38 ?_;refine jT 39 ?_;refine jS 40 ?_;refine jS 41 ?_;refine jS 42 ?_;refine jT 43 ?_;refine jT 44 ?_;refine jS 45 ?_;refine jS 46 ?_;refine jS 47 ?_;refine jT 48 ?_;refine jT 49 ?_;refine jS 50 ?_;refine jS 51 ?_;refine jS 52 ?_;refine jT 53 ?_;refine jT 54 ?_;refine jS 55 ?_;refine jS 56 ?_;refine jS 57 ?_;refine jT 58 ?_;refine jT 59 ?_;refine jS 60 ?_;refine jS 61 ?_;refine jS 62 ?_;refine jT 63 ?_;refine jT 64 ?_;refine jS 65 ?_;refine jS 66 ?_;refine jS 67 ?_;refine jT 68 ?_;refine jT 69 ?_;refine wpAnyH_done (by kernel_rfl) ?_ _;have c:=below_step g.o h.o
  go_wp2_with fail
  go_ret;exact⟨by rw[hres.o,ct0,ct1,ct2,ct3,ct4,ct5,ct6];rfl,c⟩
 refine jT 32 ?_;refine jT 33 ?_;refine jT 34 ?_;refine jT 35 ?_;refine jT 36 ?_;rcases Bool.eq_false_or_eq_true (decide (i≤4294967295)) with ct7|ct7
 rotate_left
 ·refine jT 37 ?_;refine jT 38 ?_;refine jT 39 ?_;refine jS 40 ?_;refine jS 41 ?_;refine jS 42 ?_;refine jT 43 ?_;refine jT 44 ?_;refine jS 45 ?_;refine jS 46 ?_;refine jS 47 ?_;refine jT 48 ?_;refine jT 49 ?_;refine jS 50 ?_;refine jS 51 ?_;refine jS 52 ?_;refine jT 53 ?_;refine jT 54 ?_;refine jS 55 ?_;refine jS 56 ?_;refine jS 57 ?_;refine jT 58 ?_;refine jT 59 ?_;refine jS 60 ?_;refine jS 61 ?_;refine jS 62 ?_;refine jT 63 ?_;refine jT 64 ?_;refine jS 65 ?_;refine jS 66 ?_;refine jS 67 ?_;refine jT 68 ?_;refine jT 69 ?_;refine wpAnyH_done (by kernel_rfl) ?_ _;have c:=below_step g.o h.o
  go_wp2_with fail
  go_ret;exact⟨by rw[hres.o,ct0,ct1,ct2,ct3,ct4,ct5,ct6,ct7];rfl,c⟩
 refine jT 37 ?_;refine jT 38 ?_;refine jT 39 ?_;refine jT 40 ?_;refine jT 41 ?_;rcases Bool.eq_false_or_eq_true (decide (0≤p)) with ct8|ct8
 rotate_left
 ·refine jT 42 ?_;refine jT 43 ?_;refine jT 44 ?_;refine jS 45 ?_;refine jS 46 ?_;refine jS 47 ?_;refine jT 48 ?_;refine jT 49 ?_;refine jS 50 ?_;refine jS 51 ?_;refine jS 52 ?_;refine jT 53 ?_;refine jT 54 ?_;refine jS 55 ?_;refine jS 56 ?_;refine jS 57 ?_;refine jT 58 ?_;refine jT 59 ?_;refine jS 60 ?_;refine jS 61 ?_;refine jS 62 ?_;refine jT 63 ?_;refine jT 64 ?_;refine jS 65 ?_;refine jS 66 ?_;refine jS 67 ?_;refine jT 68 ?_;refine jT 69 ?_;refine wpAnyH_done (by kernel_rfl) ?_ _;have c:=below_step g.o h.o
  go_wp2_with fail
  go_ret;exact⟨by rw[hres.o,ct0,ct1,ct2,ct3,ct4,ct5,ct6,ct7,ct8];rfl,c⟩
 refine jT 42 ?_;refine jT 43 ?_;refine jT 44 ?_;refine jT 45 ?_;refine jT 46 ?_;rcases Bool.eq_false_or_eq_true (decide (0≤q)) with ct9|ct9
 rotate_left
 ·refine jT 47 ?_;refine jT 48 ?_;refine jT 49 ?_;refine jS 50 ?_;refine jS 51 ?_;refine jS 52 ?_;refine jT 53 ?_;refine jT 54 ?_;refine jS 55 ?_;refine jS 56 ?_;refine jS 57 ?_;refine jT 58 ?_;refine jT 59 ?_;refine jS 60 ?_;refine jS 61 ?_;refine jS 62 ?_;refine jT 63 ?_;refine jT 64 ?_;refine jS 65 ?_;refine jS 66 ?_;refine jS 67 ?_;refine jT 68 ?_;refine jT 69 ?_;refine wpAnyH_done (by kernel_rfl) ?_ _;have c:=below_step g.o h.o
  go_wp2_with fail
  go_ret;exact⟨by rw[hres.o,ct0,ct1,ct2,ct3,ct4,ct5,ct6,ct7,ct8,ct9];rfl,c⟩
 refine jT 47 ?_;refine jT 48 ?_;refine jT 49 ?_;refine jT 50 ?_;refine jT 51 ?_;rcases Bool.eq_false_or_eq_true (decide (0≤n)) with ct10|ct10
 rotate_left
 ·refine jT 52 ?_;refine jT 53 ?_;refine jT 54 ?_;refine jS 55 ?_;refine jS 56 ?_;refine jS 57 ?_;refine jT 58 ?_;refine jT 59 ?_;refine jS 60 ?_;refine jS 61 ?_;refine jS 62 ?_;refine jT 63 ?_;refine jT 64 ?_;refine jS 65 ?_;refine jS 66 ?_;refine jS 67 ?_;refine jT 68 ?_;refine jT 69 ?_;refine wpAnyH_done (by kernel_rfl) ?_ _;have c:=below_step g.o h.o
  go_wp2_with fail
  go_ret;exact⟨by rw[hres.o,ct0,ct1,ct2,ct3,ct4,ct5,ct6,ct7,ct8,ct9,ct10];rfl,c⟩
 refine jT 52 ?_;refine jT 53 ?_;refine jT 54 ?_;refine jT 55 ?_;refine jT 56 ?_;rcases Bool.eq_false_or_eq_true (decide (0≤t)) with ct11|ct11
 rotate_left
 ·refine jT 57 ?_;refine jT 58 ?_;refine jT 59 ?_;refine jS 60 ?_;refine jS 61 ?_;refine jS 62 ?_;refine jT 63 ?_;refine jT 64 ?_;refine jS 65 ?_;refine jS 66 ?_;refine jS 67 ?_;refine jT 68 ?_;refine jT 69 ?_;refine wpAnyH_done (by kernel_rfl) ?_ _;have c:=below_step g.o h.o
  go_wp2_with fail
  go_ret;exact⟨by rw[hres.o,ct0,ct1,ct2,ct3,ct4,ct5,ct6,ct7,ct8,ct9,ct10,ct11];rfl,c⟩
 refine jT 57 ?_;refine jT 58 ?_;refine jT 59 ?_;refine jT 60 ?_;refine jT 61 ?_;rcases Bool.eq_false_or_eq_true (decide (0≤y)) with ct12|ct12
 rotate_left
 ·refine jT 62 ?_;refine jT 63 ?_;refine jT 64 ?_;refine jS 65 ?_;refine jS 66 ?_;refine jS 67 ?_;refine jT 68 ?_;refine jT 69 ?_;refine wpAnyH_done (by kernel_rfl) ?_ _;have c:=below_step g.o h.o
  go_wp2_with fail
  go_ret;exact⟨by rw[hres.o,ct0,ct1,ct2,ct3,ct4,ct5,ct6,ct7,ct8,ct9,ct10,ct11,ct12];rfl,c⟩
 refine jT 62 ?_;refine jT 63 ?_;refine jT 64 ?_;refine jT 65 ?_;refine jT 66 ?_;rcases Bool.eq_false_or_eq_true (decide (0≤v)) with ct13|ct13
 rotate_left
 ·refine jT 67 ?_;refine jT 68 ?_;refine jT 69 ?_;refine wpAnyH_done (by kernel_rfl) ?_ _;have c:=below_step g.o h.o
  go_wp2_with fail
  go_ret;exact⟨by rw[hres.o,ct0,ct1,ct2,ct3,ct4,ct5,ct6,ct7,ct8,ct9,ct10,ct11,ct12,ct13];rfl,c⟩
 refine jT 67 ?_;refine jT 68 ?_;refine jT 69 ?_;refine wpAnyH_done (by kernel_rfl) ?_ _;have c:=below_step g.o h.o
 go_wp2_with fail
 go_ret;exact⟨by rw[hres.o,ct0,ct1,ct2,ct3,ct4,ct5,ct6,ct7,ct8,ct9,ct10,ct11,ct12,ct13];rfl,c⟩
theorem rright_any(m:M)(w:World):Calls Tryz.prog 42 #[mvl m] w (MadeBl (rightM m) w):=by
 obtain⟨k,a,s,x,p,q,n,t,i,y,z,v⟩:=m;show Calls Tryz.prog 42 #[.agg #[.int .i64 k,.int .i64 a,.int .i64 s,.bool x,.int .i64 p,.int .i64 q,.int .i64 n,.int .i64 t,.int .i64 i,.int .i64 y,.int .i64 z,.int .i64 v]] w (MadeBl (rightM ⟨k,a,s,x,p,q,n,t,i,y,z,v⟩) w);generalize hA:alM ⟨k,a,s,x,p,q,n,t,i,y,z,v⟩=A;obtain⟨b,c,d,e,f,g,j,t2,l,o,r,C⟩:=A;refine rr k a s p q n t i y z v b c d f g j t2 l o r C x e _ w hA ?_;show _=_;rw[Bool.eq_iff_iff];simp only[Bool.and_eq_true,decide_eq_true_eq];constructor
 ·intro h;obtain⟨F,G,H,E⟩:=rightM_of h;have I:eqM ⟨b,c,d,e,f,g,j,t2,l,o,r,C⟩ ⟨k,a,s,x,p,q,n,t,i,y,z,v⟩=true:=by rw[←hA,←H];exact eqM_self _
  unfold fitP at E;simp only[]at E F G;simp only[I,true_and,and_true];omega
 ·intro h;have J:=h.1.1.1.1.1.1.1.1.1.1.1.2;refine rightM_t (by show 0≤k;omega) (by show k≤6;omega) (by rw[hA];exact((eqM_iff _ _).1 J).symm) ?_;unfold fitP;simp only[];omega
end Wry
end Go.Proofs.YtcccdikhfgpamaaGreat
