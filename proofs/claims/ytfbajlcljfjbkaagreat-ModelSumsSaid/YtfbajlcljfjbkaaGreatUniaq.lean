/- Texts side by side. -/
import Derived.Deep.DeepCutAuto
import Derived.Test.YtfbajlcljfjbkaaGreatUniap
set_option linter.unusedVariables false
set_option linter.unusedSimpArgs false
set_option maxRecDepth 100000
set_option maxHeartbeats 16000000
namespace Go.Proofs.YtfbajlcljfjbkaaGreat
open Kap Abv Go.ChangeShapes Go.WideShapes Go.ChangeAt Go.RowKit Mem Tre Ref3 Law3 Fix3 Opn Bnd Flo Cfg Rul1
namespace Rul3
variable {a sh:Int} {n:Nat}
attribute [local go_sem] run_store_float
section
variable {ac:List Int} {sy:List (Int×Int×Int×Nat)} {a s p q n t:Int}
theorem lok_1(h:p<1∨q<1∨n<0∨t<0):lokF ac sy a s p q n t=(1,0):=by unfold lokF;rw[if_pos h]
theorem lok_3(h: ¬(p<1∨q<1∨n<0∨t<0))(h1:inR ac.length a=false):lokF ac sy a s p q n t=(3,0):=by unfold lokF;rw[if_neg h,if_pos h1]
theorem lok_4(h: ¬(p<1∨q<1∨n<0∨t<0))(h1:inR ac.length a=true)(h2:inR sy.length s=false):lokF ac sy a s p q n t=(4,0):=by
 unfold lokF;rw[if_neg h,if_neg (by rw[h1];decide),if_pos h2]
theorem lok_5(h: ¬(p<1∨q<1∨n<0∨t<0))(h1:inR ac.length a=true)(h2:inR sy.length s=true)(h3:sQ sy s.toNat<q):lokF ac sy a s p q n t=(5,0):=by
 unfold lokF;rw[if_neg h,if_neg (by rw[h1];decide),if_neg (by rw[h2];decide),if_pos h3]
theorem lok_6(h: ¬(p<1∨q<1∨n<0∨t<0))(h1:inR ac.length a=true)(h2:inR sy.length s=true)(h3: ¬sQ sy s.toNat<q)(h4:Fix.noB p q=false):lokF ac sy a s p q n t=(6,0):=by
 rw[Fix.noB_in (by omega) (by omega)]at h4;unfold lokF;rw[if_neg h,if_neg (by rw[h1];decide),if_neg (by rw[h2];decide),if_neg h3,if_pos (by rw[h4];decide)]
theorem no_prod(h: ¬(p<1∨q<1∨n<0∨t<0))(h4:Fix.noB p q=true):Fix.noV p q=p*q:=by
 rw[Fix.noV_in (by omega) (by omega)];rw[Fix.noB_in (by omega) (by omega)]at h4;unfold Fix.numV;rw[h4];rfl
theorem lok_7(h: ¬(p<1∨q<1∨n<0∨t<0))(h1:inR ac.length a=true)(h2:inR sy.length s=true)(h3: ¬sQ sy s.toNat<q)(h4:Fix.noB p q=true)(h5:sW sy s.toNat<Fix.noV p q):lokF ac sy a s p q n t=(7,0):=by
 rw[no_prod h h4]at h5;rw[Fix.noB_in (by omega) (by omega)]at h4;unfold lokF;rw[if_neg h,if_neg (by rw[h1];decide),if_neg (by rw[h2];decide),if_neg h3,if_neg (by rw[h4];decide),if_pos h5]
theorem lok_8(h: ¬(p<1∨q<1∨n<0∨t<0))(h1:inR ac.length a=true)(h2:inR sy.length s=true)(h3: ¬sQ sy s.toNat<q)(h4:Fix.noB p q=true)(h5: ¬sW sy s.toNat<Fix.noV p q)(h6:witB (sP sy s.toNat) p (sB sy s.toNat)=false):lokF ac sy a s p q n t=(8,0):=by
 rw[no_prod h h4]at h5;rw[Fix.noB_in (by omega) (by omega)]at h4;unfold lokF;rw[if_neg h,if_neg (by rw[h1];decide),if_neg (by rw[h2];decide),if_neg h3,if_neg (by rw[h4];decide),if_neg h5,if_pos h6]
theorem lok_0(h: ¬(p<1∨q<1∨n<0∨t<0))(h1:inR ac.length a=true)(h2:inR sy.length s=true)(h3: ¬sQ sy s.toNat<q)(h4:Fix.noB p q=true)(h5: ¬sW sy s.toNat<Fix.noV p q)(h6:witB (sP sy s.toNat) p (sB sy s.toNat)=true):lokF ac sy a s p q n t=(0,Fix.noV p q):=by
 rw[no_prod h h4]at h5 ⊢;rw[Fix.noB_in (by omega) (by omega)]at h4;unfold lokF;rw[if_neg h,if_neg (by rw[h1];decide),if_neg (by rw[h2];decide),if_neg h3,if_neg (by rw[h4];decide),if_neg h5,if_neg (by rw[h6];decide)]
end
theorem look_any(sh wi ra ta:Int)(A B C:Option Addr)(c d f:Nat)(nd:List (Int×Int))(ac:List Int)(sy:List (Int×Int×Int×Nat))(a s:Int)(x:Bool)(p q n t:Int)(w:World)
  (hs:Hid (Smb w w.heap.size C sy))(hwf:Hid (WfS sy))(hp:inI p)(hq:inI q)(hmay:(ac.length:Int)≤1000000)(hmaz:(sy.length:Int)≤1000000):
  Calls Tryz.prog 68 #[.agg #[.int .i64 sh,.int .i64 wi,.int .i64 ra,.int .i64 ta,.slice A nd.length c,.slice B ac.length d,.slice C sy.length f],.agg #[.int .i64 a,.int .i64 s,.bool x,.int .i64 p,.int .i64 q,.int .i64 n,.int .i64 t]] w (Made2 (lokF ac sy a s p q n t) w):=by
 obtain⟨hp0,hp1⟩:=hp;obtain⟨hq0,hq1⟩:=hq;have b0:=γ w (.cells (vC sh wi ra ta A nd.length c B ac.length d C sy.length f) 40) (.cells (vO a s x p q n t) 60);have s0:Hid (Smb ((w.alloc (.cells (vC sh wi ra ta A nd.length c B ac.length d C sy.length f) 40)).alloc (.cells (vO a s x p q n t) 60)) ((w.alloc (.cells (vC sh wi ra ta A nd.length c B ac.length d C sy.length f) 40)).alloc (.cells (vO a s x p q n t) 60)).heap.size C sy):=Rd.below' hs.out b0 b0.size;have k0:=κ ((Blk.fresh w 40 (vC sh wi ra ta A nd.length c B ac.length d C sy.length f)).alloc (.cells (vO a s x p q n t) 60))
 have k1:Hid (Blk ((w.alloc (.cells (vC sh wi ra ta A nd.length c B ac.length d C sy.length f) 40)).alloc (.cells (vO a s x p q n t) 60)) (w.heap.size+1) 60 (vO a s x p q n t)):=by
  have:=Blk.fresh (w.alloc (.cells (vC sh wi ra ta A nd.length c B ac.length d C sy.length f) 40)) 60 (vO a s x p q n t);simp only[World.size_alloc]at this;exact this
 have hsz:w.heap.size+1<((w.alloc (.cells (vC sh wi ra ta A nd.length c B ac.length d C sy.length f) 40)).alloc (.cells (vO a s x p q n t) 60)).heap.size:=by simp
 go_enter Tryz.func68,Tryz.ntmps68
 go_upto_region 1 with fail
 generalize ((w.alloc (.cells (vC sh wi ra ta A nd.length c B ac.length d C sy.length f) 40)).alloc (.cells (vO a s x p q n t) 60))=W0 at b0 s0 k0 k1 hsz ⊢;have f0:=χ (k0.out.cell 5);have f1:=χ (k0.out.cell 6);have g0:=χ (k1.out.cell 0);have g1:=χ (k1.out.cell 1);have g3:=χ (k1.out.cell 3);have g4:=χ (k1.out.cell 4);have g5:=χ (k1.out.cell 5);have g6:=χ (k1.out.cell 6);by_cases hh0:p<1
 ·
  have E:Hid (lokF ac sy a s p q n t=(1,0)):=lok_1 (by omega)
  go_wp2_with (first|(go_at_call 102;(with_reducible refine(hasI_any _ _ _ _ _).mono ?_);rintro e w4 ⟨rfl,rfl⟩)|(go_at_call 103;(with_reducible refine(hasS_any _ _ _ _ _).mono ?_);rintro e w4 ⟨rfl,rfl⟩)|(go_at_call 104;(with_reducible refine(Fix.not_any p q _ (by omega) (by omega) (by omega) (by omega)).mono ?_);rintro e w4 ⟨rfl,rfl⟩)|(go_at_call 105;(with_reducible refine(Bnd.wit_any _ _ _ _ hbb).mono ?_);rintro e w4 ⟨rfl,rfl⟩))
  go_ret2;exact made2 E.out b0
 by_cases hh1:q<1
 ·
  have E:Hid (lokF ac sy a s p q n t=(1,0)):=lok_1 (by omega)
  go_wp2_with (first|(go_at_call 102;(with_reducible refine(hasI_any _ _ _ _ _).mono ?_);rintro e w4 ⟨rfl,rfl⟩)|(go_at_call 103;(with_reducible refine(hasS_any _ _ _ _ _).mono ?_);rintro e w4 ⟨rfl,rfl⟩)|(go_at_call 104;(with_reducible refine(Fix.not_any p q _ (by omega) (by omega) (by omega) (by omega)).mono ?_);rintro e w4 ⟨rfl,rfl⟩)|(go_at_call 105;(with_reducible refine(Bnd.wit_any _ _ _ _ hbb).mono ?_);rintro e w4 ⟨rfl,rfl⟩))
  go_ret2;exact made2 E.out b0
 by_cases hh2:n<0
 ·
  have E:Hid (lokF ac sy a s p q n t=(1,0)):=lok_1 (by omega)
  go_wp2_with (first|(go_at_call 102;(with_reducible refine(hasI_any _ _ _ _ _).mono ?_);rintro e w4 ⟨rfl,rfl⟩)|(go_at_call 103;(with_reducible refine(hasS_any _ _ _ _ _).mono ?_);rintro e w4 ⟨rfl,rfl⟩)|(go_at_call 104;(with_reducible refine(Fix.not_any p q _ (by omega) (by omega) (by omega) (by omega)).mono ?_);rintro e w4 ⟨rfl,rfl⟩)|(go_at_call 105;(with_reducible refine(Bnd.wit_any _ _ _ _ hbb).mono ?_);rintro e w4 ⟨rfl,rfl⟩))
  go_ret2;exact made2 E.out b0
 by_cases hh3:t<0
 ·
  have E:Hid (lokF ac sy a s p q n t=(1,0)):=lok_1 (by omega)
  go_wp2_with (first|(go_at_call 102;(with_reducible refine(hasI_any _ _ _ _ _).mono ?_);rintro e w4 ⟨rfl,rfl⟩)|(go_at_call 103;(with_reducible refine(hasS_any _ _ _ _ _).mono ?_);rintro e w4 ⟨rfl,rfl⟩)|(go_at_call 104;(with_reducible refine(Fix.not_any p q _ (by omega) (by omega) (by omega) (by omega)).mono ?_);rintro e w4 ⟨rfl,rfl⟩)|(go_at_call 105;(with_reducible refine(Bnd.wit_any _ _ _ _ hbb).mono ?_);rintro e w4 ⟨rfl,rfl⟩))
  go_ret2;exact made2 E.out b0
 have HN:Hid (¬(p<1∨q<1∨n<0∨t<0)):=by show ¬_;omega
 cases h1:inR ac.length a
 ·
  have E:Hid (lokF ac sy a s p q n t=(3,0)):=lok_3 HN.out h1
  go_wp2_with (first|(go_at_call 102;(with_reducible refine(hasI_any _ _ _ _ _).mono ?_);rintro e w4 ⟨rfl,rfl⟩)|(go_at_call 103;(with_reducible refine(hasS_any _ _ _ _ _).mono ?_);rintro e w4 ⟨rfl,rfl⟩)|(go_at_call 104;(with_reducible refine(Fix.not_any p q _ (by omega) (by omega) (by omega) (by omega)).mono ?_);rintro e w4 ⟨rfl,rfl⟩)|(go_at_call 105;(with_reducible refine(Bnd.wit_any _ _ _ _ hbb).mono ?_);rintro e w4 ⟨rfl,rfl⟩))
  go_ret2;exact made2 E.out b0
 cases h2:inR sy.length s
 ·
  have E:=κ (lok_4 HN.out h1 h2)
  go_wp2_with (first|(go_at_call 102;(with_reducible refine(hasI_any _ _ _ _ _).mono ?_);rintro e w4 ⟨rfl,rfl⟩)|(go_at_call 103;(with_reducible refine(hasS_any _ _ _ _ _).mono ?_);rintro e w4 ⟨rfl,rfl⟩)|(go_at_call 104;(with_reducible refine(Fix.not_any p q _ (by omega) (by omega) (by omega) (by omega)).mono ?_);rintro e w4 ⟨rfl,rfl⟩)|(go_at_call 105;(with_reducible refine(Bnd.wit_any _ _ _ _ hbb).mono ?_);rintro e w4 ⟨rfl,rfl⟩))
  go_ret2;exact made2 E.out b0
 obtain⟨hs0,hs1⟩:=inR_of h2;obtain⟨b,o,rfl,hb,hcc⟩:=Smb.at (i:=s.toNat) s0.out (by omega);obtain⟨r0,r1,r2,r3⟩:=hcc s.toNat (by omega);have hbb:=(hwf.out s.toNat (by omega)).2.2.2;clear hcc;have bs:=b0.alloc b0.size (.cells (vF (sP sy s.toNat) (sQ sy s.toNat) (sW sy s.toNat) (sB sy s.toNat)) 100);have f2:(W0.alloc (.cells (vF (sP sy s.toNat) (sQ sy s.toNat) (sW sy s.toNat) (sB sy s.toNat)) 100)).cell? (α (w.heap.size+1) 3)=some (ι p):=(World.cell?_alloc_lt W0 _ (α (w.heap.size+1) 3) hsz).trans g3;have f3:(W0.alloc (.cells (vF (sP sy s.toNat) (sQ sy s.toNat) (sW sy s.toNat) (sB sy s.toNat)) 100)).cell? (α (w.heap.size+1) 4)=some (ι q):=(World.cell?_alloc_lt W0 _ (α (w.heap.size+1) 4) hsz).trans g4;by_cases h3:sQ sy s.toNat<q
 ·
  have E:=κ (lok_5 HN.out h1 h2 h3)
  go_wp2_with (first|(go_at_call 102;(with_reducible refine(hasI_any _ _ _ _ _).mono ?_);rintro e w4 ⟨rfl,rfl⟩)|(go_at_call 103;(with_reducible refine(hasS_any _ _ _ _ _).mono ?_);rintro e w4 ⟨rfl,rfl⟩)|(go_at_call 104;(with_reducible refine(Fix.not_any p q _ (by omega) (by omega) (by omega) (by omega)).mono ?_);rintro e w4 ⟨rfl,rfl⟩)|(go_at_call 105;(with_reducible refine(Bnd.wit_any _ _ _ _ hbb).mono ?_);rintro e w4 ⟨rfl,rfl⟩))
  go_ret2;exact made2 E.out bs
 cases h4:Fix.noB p q
 ·
  have E:=κ (lok_6 HN.out h1 h2 h3 h4)
  go_wp2_with (first|(go_at_call 102;(with_reducible refine(hasI_any _ _ _ _ _).mono ?_);rintro e w4 ⟨rfl,rfl⟩)|(go_at_call 103;(with_reducible refine(hasS_any _ _ _ _ _).mono ?_);rintro e w4 ⟨rfl,rfl⟩)|(go_at_call 104;(with_reducible refine(Fix.not_any p q _ (by omega) (by omega) (by omega) (by omega)).mono ?_);rintro e w4 ⟨rfl,rfl⟩)|(go_at_call 105;(with_reducible refine(Bnd.wit_any _ _ _ _ hbb).mono ?_);rintro e w4 ⟨rfl,rfl⟩))
  go_ret2;exact made2 E.out bs
 by_cases h5:sW sy s.toNat<Fix.noV p q
 ·
  have E:=κ (lok_7 HN.out h1 h2 h3 h4 h5)
  go_wp2_with (first|(go_at_call 102;(with_reducible refine(hasI_any _ _ _ _ _).mono ?_);rintro e w4 ⟨rfl,rfl⟩)|(go_at_call 103;(with_reducible refine(hasS_any _ _ _ _ _).mono ?_);rintro e w4 ⟨rfl,rfl⟩)|(go_at_call 104;(with_reducible refine(Fix.not_any p q _ (by omega) (by omega) (by omega) (by omega)).mono ?_);rintro e w4 ⟨rfl,rfl⟩)|(go_at_call 105;(with_reducible refine(Bnd.wit_any _ _ _ _ hbb).mono ?_);rintro e w4 ⟨rfl,rfl⟩))
  go_ret2;exact made2 E.out bs
 cases h6:witB (sP sy s.toNat) p (sB sy s.toNat)
 ·
  have E:=κ (lok_8 HN.out h1 h2 h3 h4 h5 h6)
  go_wp2_with (first|(go_at_call 102;(with_reducible refine(hasI_any _ _ _ _ _).mono ?_);rintro e w4 ⟨rfl,rfl⟩)|(go_at_call 103;(with_reducible refine(hasS_any _ _ _ _ _).mono ?_);rintro e w4 ⟨rfl,rfl⟩)|(go_at_call 104;(with_reducible refine(Fix.not_any p q _ (by omega) (by omega) (by omega) (by omega)).mono ?_);rintro e w4 ⟨rfl,rfl⟩)|(go_at_call 105;(with_reducible refine(Bnd.wit_any _ _ _ _ hbb).mono ?_);rintro e w4 ⟨rfl,rfl⟩))
  go_ret2;exact made2 E.out bs
 ·
  have E:=κ (lok_0 HN.out h1 h2 h3 h4 h5 h6)
  go_wp2_with (first|(go_at_call 102;(with_reducible refine(hasI_any _ _ _ _ _).mono ?_);rintro e w4 ⟨rfl,rfl⟩)|(go_at_call 103;(with_reducible refine(hasS_any _ _ _ _ _).mono ?_);rintro e w4 ⟨rfl,rfl⟩)|(go_at_call 104;(with_reducible refine(Fix.not_any p q _ (by omega) (by omega) (by omega) (by omega)).mono ?_);rintro e w4 ⟨rfl,rfl⟩)|(go_at_call 105;(with_reducible refine(Bnd.wit_any _ _ _ _ hbb).mono ?_);rintro e w4 ⟨rfl,rfl⟩))
  go_ret2;exact made2 E.out bs
theorem rlook_any(sh wi ra ta:Int)(A B C:Option Addr)(c d f:Nat)(nd:List (Int×Int))(ac:List Int)(sy:List (Int×Int×Int×Nat))(a s:Int)(x:Bool)(p q n t:Int)(w:World)
  (hs:Hid (Smb w w.heap.size C sy))(hwf:Hid (WfS sy))(hp:inI p)(hq:inI q)(hmay:(ac.length:Int)≤1000000)(hmaz:(sy.length:Int)≤1000000):
  Calls Tryz.prog 83 #[.agg #[.int .i64 sh,.int .i64 wi,.int .i64 ra,.int .i64 ta,.slice A nd.length c,.slice B ac.length d,.slice C sy.length f],.agg #[.int .i64 a,.int .i64 s,.bool x,.int .i64 p,.int .i64 q,.int .i64 n,.int .i64 t]] w (Made2 (lokF ac sy a s p q n t) w):=by
 obtain⟨hp0,hp1⟩:=hp;obtain⟨hq0,hq1⟩:=hq;have b0:=γ w (.cells (vC sh wi ra ta A nd.length c B ac.length d C sy.length f) 30) (.cells (vO a s x p q n t) 47);have s0:Hid (Smb ((w.alloc (.cells (vC sh wi ra ta A nd.length c B ac.length d C sy.length f) 30)).alloc (.cells (vO a s x p q n t) 47)) ((w.alloc (.cells (vC sh wi ra ta A nd.length c B ac.length d C sy.length f) 30)).alloc (.cells (vO a s x p q n t) 47)).heap.size C sy):=Rd.below' hs.out b0 b0.size;have k0:=κ ((Blk.fresh w 30 (vC sh wi ra ta A nd.length c B ac.length d C sy.length f)).alloc (.cells (vO a s x p q n t) 47))
 have k1:Hid (Blk ((w.alloc (.cells (vC sh wi ra ta A nd.length c B ac.length d C sy.length f) 30)).alloc (.cells (vO a s x p q n t) 47)) (w.heap.size+1) 47 (vO a s x p q n t)):=by
  have:=Blk.fresh (w.alloc (.cells (vC sh wi ra ta A nd.length c B ac.length d C sy.length f) 30)) 47 (vO a s x p q n t);simp only[World.size_alloc]at this;exact this
 have hsz:w.heap.size+1<((w.alloc (.cells (vC sh wi ra ta A nd.length c B ac.length d C sy.length f) 30)).alloc (.cells (vO a s x p q n t) 47)).heap.size:=by simp
 go_enter Tryz.func83,Tryz.ntmps83
 go_upto_region 1 with fail
 generalize ((w.alloc (.cells (vC sh wi ra ta A nd.length c B ac.length d C sy.length f) 30)).alloc (.cells (vO a s x p q n t) 47))=W0 at b0 s0 k0 k1 hsz ⊢;have f0:=χ (k0.out.cell 5);have f1:=χ (k0.out.cell 6);have g0:=χ (k1.out.cell 0);have g1:=χ (k1.out.cell 1);have g3:=χ (k1.out.cell 3);have g4:=χ (k1.out.cell 4);have g5:=χ (k1.out.cell 5);have g6:=χ (k1.out.cell 6);by_cases hh0:p<1
 ·
  have E:Hid (lokF ac sy a s p q n t=(1,0)):=lok_1 (by omega)
  go_wp2_with (first|(go_at_call 117;(with_reducible refine(Fix.rnot_any p q _ (by omega) (by omega) (by omega) (by omega)).mono ?_);rintro e w4 ⟨rfl,rfl⟩)|(go_at_call 118;(with_reducible refine(Bnd.rwit_any _ _ _ _ hbb).mono ?_);rintro e w4 ⟨rfl,rfl⟩))
  go_ret2;exact made2 E.out b0
 by_cases hh1:q<1
 ·
  have E:Hid (lokF ac sy a s p q n t=(1,0)):=lok_1 (by omega)
  go_wp2_with (first|(go_at_call 117;(with_reducible refine(Fix.rnot_any p q _ (by omega) (by omega) (by omega) (by omega)).mono ?_);rintro e w4 ⟨rfl,rfl⟩)|(go_at_call 118;(with_reducible refine(Bnd.rwit_any _ _ _ _ hbb).mono ?_);rintro e w4 ⟨rfl,rfl⟩))
  go_ret2;exact made2 E.out b0
 by_cases hh2:n<0
 ·
  have E:Hid (lokF ac sy a s p q n t=(1,0)):=lok_1 (by omega)
  go_wp2_with (first|(go_at_call 117;(with_reducible refine(Fix.rnot_any p q _ (by omega) (by omega) (by omega) (by omega)).mono ?_);rintro e w4 ⟨rfl,rfl⟩)|(go_at_call 118;(with_reducible refine(Bnd.rwit_any _ _ _ _ hbb).mono ?_);rintro e w4 ⟨rfl,rfl⟩))
  go_ret2;exact made2 E.out b0
 by_cases hh3:t<0
 ·
  have E:Hid (lokF ac sy a s p q n t=(1,0)):=lok_1 (by omega)
  go_wp2_with (first|(go_at_call 117;(with_reducible refine(Fix.rnot_any p q _ (by omega) (by omega) (by omega) (by omega)).mono ?_);rintro e w4 ⟨rfl,rfl⟩)|(go_at_call 118;(with_reducible refine(Bnd.rwit_any _ _ _ _ hbb).mono ?_);rintro e w4 ⟨rfl,rfl⟩))
  go_ret2;exact made2 E.out b0
 have HN:Hid (¬(p<1∨q<1∨n<0∨t<0)):=by show ¬_;omega
 by_cases ha0:a<0
 ·
  have E:Hid (lokF ac sy a s p q n t=(3,0)):=lok_3 HN.out (inR_f (by omega))
  go_wp2_with (first|(go_at_call 117;(with_reducible refine(Fix.rnot_any p q _ (by omega) (by omega) (by omega) (by omega)).mono ?_);rintro e w4 ⟨rfl,rfl⟩)|(go_at_call 118;(with_reducible refine(Bnd.rwit_any _ _ _ _ hbb).mono ?_);rintro e w4 ⟨rfl,rfl⟩))
  go_ret2;exact made2 E.out b0
 by_cases ha1:(ac.length:Int)≤a
 ·
  have E:Hid (lokF ac sy a s p q n t=(3,0)):=lok_3 HN.out (inR_f (by omega))
  go_wp2_with (first|(go_at_call 117;(with_reducible refine(Fix.rnot_any p q _ (by omega) (by omega) (by omega) (by omega)).mono ?_);rintro e w4 ⟨rfl,rfl⟩)|(go_at_call 118;(with_reducible refine(Bnd.rwit_any _ _ _ _ hbb).mono ?_);rintro e w4 ⟨rfl,rfl⟩))
  go_ret2;exact made2 E.out b0
 have h1:Hid (inR ac.length a=true):=inR_t (by omega) (by omega);by_cases hs0:s<0
 ·
  have E:Hid (lokF ac sy a s p q n t=(4,0)):=lok_4 HN.out h1.out (inR_f (by omega))
  go_wp2_with (first|(go_at_call 117;(with_reducible refine(Fix.rnot_any p q _ (by omega) (by omega) (by omega) (by omega)).mono ?_);rintro e w4 ⟨rfl,rfl⟩)|(go_at_call 118;(with_reducible refine(Bnd.rwit_any _ _ _ _ hbb).mono ?_);rintro e w4 ⟨rfl,rfl⟩))
  go_ret2;exact made2 E.out b0
 by_cases hs1:(sy.length:Int)≤s
 ·
  have E:Hid (lokF ac sy a s p q n t=(4,0)):=lok_4 HN.out h1.out (inR_f (by omega))
  go_wp2_with (first|(go_at_call 117;(with_reducible refine(Fix.rnot_any p q _ (by omega) (by omega) (by omega) (by omega)).mono ?_);rintro e w4 ⟨rfl,rfl⟩)|(go_at_call 118;(with_reducible refine(Bnd.rwit_any _ _ _ _ hbb).mono ?_);rintro e w4 ⟨rfl,rfl⟩))
  go_ret2;exact made2 E.out b0
 have h2:Hid (inR sy.length s=true):=inR_t (by omega) (by omega);obtain⟨b,o,rfl,hb,hcc⟩:=Smb.at (i:=s.toNat) s0.out (by omega);obtain⟨r0,r1,r2,r3⟩:=hcc s.toNat (by omega);have hbb:=(hwf.out s.toNat (by omega)).2.2.2;clear hcc;have bs:=b0.alloc b0.size (.cells (vF (sP sy s.toNat) (sQ sy s.toNat) (sW sy s.toNat) (sB sy s.toNat)) 87);have f2:(W0.alloc (.cells (vF (sP sy s.toNat) (sQ sy s.toNat) (sW sy s.toNat) (sB sy s.toNat)) 87)).cell? (α (w.heap.size+1) 3)=some (ι p):=(World.cell?_alloc_lt W0 _ (α (w.heap.size+1) 3) hsz).trans g3;have f3:(W0.alloc (.cells (vF (sP sy s.toNat) (sQ sy s.toNat) (sW sy s.toNat) (sB sy s.toNat)) 87)).cell? (α (w.heap.size+1) 4)=some (ι q):=(World.cell?_alloc_lt W0 _ (α (w.heap.size+1) 4) hsz).trans g4;by_cases h3:sQ sy s.toNat<q
 ·
  have E:=κ (lok_5 HN.out h1.out h2.out h3)
  go_wp2_with (first|(go_at_call 117;(with_reducible refine(Fix.rnot_any p q _ (by omega) (by omega) (by omega) (by omega)).mono ?_);rintro e w4 ⟨rfl,rfl⟩)|(go_at_call 118;(with_reducible refine(Bnd.rwit_any _ _ _ _ hbb).mono ?_);rintro e w4 ⟨rfl,rfl⟩))
  go_ret2;exact made2 E.out bs
 cases h4:Fix.noB p q
 ·
  have E:=κ (lok_6 HN.out h1.out h2.out h3 h4)
  go_wp2_with (first|(go_at_call 117;(with_reducible refine(Fix.rnot_any p q _ (by omega) (by omega) (by omega) (by omega)).mono ?_);rintro e w4 ⟨rfl,rfl⟩)|(go_at_call 118;(with_reducible refine(Bnd.rwit_any _ _ _ _ hbb).mono ?_);rintro e w4 ⟨rfl,rfl⟩))
  go_ret2;exact made2 E.out bs
 by_cases h5:sW sy s.toNat<Fix.noV p q
 ·
  have E:=κ (lok_7 HN.out h1.out h2.out h3 h4 h5)
  go_wp2_with (first|(go_at_call 117;(with_reducible refine(Fix.rnot_any p q _ (by omega) (by omega) (by omega) (by omega)).mono ?_);rintro e w4 ⟨rfl,rfl⟩)|(go_at_call 118;(with_reducible refine(Bnd.rwit_any _ _ _ _ hbb).mono ?_);rintro e w4 ⟨rfl,rfl⟩))
  go_ret2;exact made2 E.out bs
 cases h6:witB (sP sy s.toNat) p (sB sy s.toNat)
 ·
  have E:=κ (lok_8 HN.out h1.out h2.out h3 h4 h5 h6)
  go_wp2_with (first|(go_at_call 117;(with_reducible refine(Fix.rnot_any p q _ (by omega) (by omega) (by omega) (by omega)).mono ?_);rintro e w4 ⟨rfl,rfl⟩)|(go_at_call 118;(with_reducible refine(Bnd.rwit_any _ _ _ _ hbb).mono ?_);rintro e w4 ⟨rfl,rfl⟩))
  go_ret2;exact made2 E.out bs
 ·
  have E:=κ (lok_0 HN.out h1.out h2.out h3 h4 h5 h6)
  go_wp2_with (first|(go_at_call 117;(with_reducible refine(Fix.rnot_any p q _ (by omega) (by omega) (by omega) (by omega)).mono ?_);rintro e w4 ⟨rfl,rfl⟩)|(go_at_call 118;(with_reducible refine(Bnd.rwit_any _ _ _ _ hbb).mono ?_);rintro e w4 ⟨rfl,rfl⟩))
  go_ret2;exact made2 E.out bs
theorem sha_n(h:sh<1∨inR n a=false):shaF sh n a= -1:=by unfold shaF;rw[if_pos h]
theorem sha_y(h:1≤sh)(h':inR n a=true):shaF sh n a=a%sh:=by
 unfold shaF;rw[if_neg];rw[h'];intro e;rcases e with e|e
 ·omega
 ·exact absurd e (by decide)
theorem shard_any(sh wi ra ta:Int)(A B C:Option Addr)(c d f:Nat)(nd:List (Int×Int))(ac:List Int)(sy:List (Int×Int×Int×Nat))(a:Int)(w:World)(hsh:inI sh)(hmay:(ac.length:Int)≤1000000):
  Calls Tryz.prog 69 #[.agg #[.int .i64 sh,.int .i64 wi,.int .i64 ra,.int .i64 ta,.slice A nd.length c,.slice B ac.length d,.slice C sy.length f],.int .i64 a] w (MadeX (shaF sh ac.length a) w):=by
 obtain⟨hh0,hh1⟩:=hsh;have b0:=β w (.cells (vC sh wi ra ta A nd.length c B ac.length d C sy.length f) 40);by_cases h0:sh<1
 ·have E:Hid (shaF sh ac.length a= -1):=sha_n (.inl h0)
  go_enter Tryz.func69,Tryz.ntmps69
  go_wp2_with (go_at_call 102;(with_reducible refine(hasI_any _ _ _ _ _).mono ?_);rintro e w4 ⟨rfl,rfl⟩)
  go_ret;exact madeX_mk E.out b0
 cases h1:inR ac.length a
 ·have E:Hid (shaF sh ac.length a= -1):=sha_n (.inr h1)
  go_enter Tryz.func69,Tryz.ntmps69
  go_wp2_with (go_at_call 102;(with_reducible refine(hasI_any _ _ _ _ _).mono ?_);rintro e w4 ⟨rfl,rfl⟩)
  go_ret;exact madeX_mk E.out b0
 ·obtain⟨ha0,ha1⟩:=inR_of h1;have E:Hid (shaF sh ac.length a=a%sh):=sha_y (by omega) h1;have hz: ¬sh=0:=by omega
  have hz1:=beq_eq_false_iff_ne.2 (by omega)
  go_enter Tryz.func69,Tryz.ntmps69
  go_wp2_with (go_at_call 102;(with_reducible refine(hasI_any _ _ _ _ _).mono ?_);rintro e w4 ⟨rfl,rfl⟩)
  go_ret;exact madeX_mk E.out b0
theorem rshard_any(sh wi ra ta:Int)(A B C:Option Addr)(c d f:Nat)(nd:List (Int×Int))(ac:List Int)(sy:List (Int×Int×Int×Nat))(a:Int)(w:World)(hsh:inI sh)(hmay:(ac.length:Int)≤1000000):
  Calls Tryz.prog 84 #[.agg #[.int .i64 sh,.int .i64 wi,.int .i64 ra,.int .i64 ta,.slice A nd.length c,.slice B ac.length d,.slice C sy.length f],.int .i64 a] w (MadeX (shaF sh ac.length a) w):=by
 obtain⟨hh0,hh1⟩:=hsh;have b0:=β w (.cells (vC sh wi ra ta A nd.length c B ac.length d C sy.length f) 30);by_cases h1:a<0
 ·have E:Hid (shaF sh ac.length a= -1):=sha_n (.inr (inR_f (by omega)))
  go_enter Tryz.func84,Tryz.ntmps84
  go_wp2_with fail
  go_ret;exact madeX_mk E.out b0
 by_cases h2:(ac.length:Int)≤a
 ·have E:Hid (shaF sh ac.length a= -1):=sha_n (.inr (inR_f (by omega)))
  go_enter Tryz.func84,Tryz.ntmps84
  go_wp2_with fail
  go_ret;exact madeX_mk E.out b0
 by_cases h0:sh<1
 ·have E:Hid (shaF sh ac.length a= -1):=sha_n (.inl h0)
  go_enter Tryz.func84,Tryz.ntmps84
  go_wp2_with fail
  go_ret;exact madeX_mk E.out b0
 ·have E:Hid (shaF sh ac.length a=a%sh):=sha_y (by omega) (inR_t (by omega) (by omega));have hz: ¬sh=0:=by omega
  have hz1:=beq_eq_false_iff_ne.2 (by omega)
  go_enter Tryz.func84,Tryz.ntmps84
  go_wp2_with fail
  go_ret;exact madeX_mk E.out b0
def MadeO(a s:Int)(x:Bool)(p q n t:Int)(w:World)(e:Ending)(w':World):Prop:=e= .returned (.agg #[.int .i64 a,.int .i64 s,.bool x,.int .i64 p,.int .i64 q,.int .i64 n,.int .i64 t])∧Below w.heap.size w w'
theorem order_any(a s:Int)(x:Bool)(p q n t:Int)(w:World):
  Calls Tryz.prog 30 #[.agg #[.int .i64 a,.int .i64 s,.bool x,.int .i64 p,.int .i64 q,.int .i64 n,.int .i64 t]] w (MadeO a s x p q n t w):=by
 go_enter Tryz.func30,Tryz.ntmps30
 go_wp2_with fail
 exact bodyPost_ret (v:= .agg #[ι a,ι s,.bool x,ι p,ι q,ι n,ι t]) (by simp[results,Tryz.results30,go_sem]) rfl ⟨rfl,(ψ.alloc τ _).alloc (by simp) _⟩
end Rul3
end Go.Proofs.YtfbajlcljfjbkaaGreat
