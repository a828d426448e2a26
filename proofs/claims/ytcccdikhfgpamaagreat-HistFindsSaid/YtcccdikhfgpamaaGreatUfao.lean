/- Texts side by side. -/
import Derived.Deep.DeepCutAuto
import Derived.Test.YtcccdikhfgpamaaGreatUfan
set_option linter.unusedVariables false
set_option linter.unusedSimpArgs false
set_option maxRecDepth 100000
set_option maxHeartbeats 16000000
namespace Go.Proofs.YtcccdikhfgpamaaGreat
open Kap Abv Go.ChangeShapes Go.WideShapes Go.ChangeAt Go.RowKit Mem Tre Ref3 Law3 Fix3 Opn Bnd Flo Cfg Rul1
namespace Rul3
variable {a sh:Int} {n:Nat}
attribute [local go_sem] run_store_float
section
variable {ac:List Int} {sy:List (Int×Int×Int×Nat)} {a s p q n t:Int}
theorem lok_1(h:p<1∨q<1∨n<0∨t<0):lokF ac sy a s p q n t=(1,0):=by unfold lokF;rw[if_pos h]
theorem lok_3(h: ¬(p<1∨q<1∨n<0∨t<0))(h1:inR ac.length a=false):lokF ac sy a s p q n t=(3,0):=by unfold lokF;rw[if_neg h,if_pos h1]
theorem lok_4(h: ¬(p<1∨q<1∨n<0∨t<0))(h1:inR ac.length a=true)(h2:inR sy.length s=false):lokF ac sy a s p q n t=(4,0):=by
 unfold lokF;rw[if_neg h,if_neg (by rw[h1];decide),if_pos h2]
theorem lok_5(h: ¬(p<1∨q<1∨n<0∨t<0))(h1:inR ac.length a=true)(h2:inR sy.length s=true)(h3:sQ sy s.toNat<q):lokF ac sy a s p q n t=(5,0):=by
 unfold lokF;rw[if_neg h,if_neg (by rw[h1];decide),if_neg (by rw[h2];decide),if_pos h3]
theorem lok_6(h: ¬(p<1∨q<1∨n<0∨t<0))(h1:inR ac.length a=true)(h2:inR sy.length s=true)(h3: ¬sQ sy s.toNat<q)(h4:Fix.noB p q=false):lokF ac sy a s p q n t=(6,0):=by
 rw[Fix.noB_in (by omega) (by omega)]at h4;unfold lokF;rw[if_neg h,if_neg (by rw[h1];decide),if_neg (by rw[h2];decide),if_neg h3,if_pos (by rw[h4];decide)]
theorem no_prod(h: ¬(p<1∨q<1∨n<0∨t<0))(h4:Fix.noB p q=true):Fix.noV p q=p*q:=by
 rw[Fix.noV_in (by omega) (by omega)];rw[Fix.noB_in (by omega) (by omega)]at h4;unfold Fix.numV;rw[h4];rfl
theorem lok_7(h: ¬(p<1∨q<1∨n<0∨t<0))(h1:inR ac.length a=true)(h2:inR sy.length s=true)(h3: ¬sQ sy s.toNat<q)(h4:Fix.noB p q=true)(h5:sW sy s.toNat<Fix.noV p q):lokF ac sy a s p q n t=(7,0):=by
 rw[no_prod h h4]at h5;rw[Fix.noB_in (by omega) (by omega)]at h4;unfold lokF;rw[if_neg h,if_neg (by rw[h1];decide),if_neg (by rw[h2];decide),if_neg h3,if_neg (by rw[h4];decide),if_pos h5]
theorem lok_8(h: ¬(p<1∨q<1∨n<0∨t<0))(h1:inR ac.length a=true)(h2:inR sy.length s=true)(h3: ¬sQ sy s.toNat<q)(h4:Fix.noB p q=true)(h5: ¬sW sy s.toNat<Fix.noV p q)(h6:witB (sP sy s.toNat) p (sB sy s.toNat)=false):lokF ac sy a s p q n t=(8,0):=by
 rw[no_prod h h4]at h5;rw[Fix.noB_in (by omega) (by omega)]at h4;unfold lokF;rw[if_neg h,if_neg (by rw[h1];decide),if_neg (by rw[h2];decide),if_neg h3,if_neg (by rw[h4];decide),if_neg h5,if_pos h6]
theorem lok_0(h: ¬(p<1∨q<1∨n<0∨t<0))(h1:inR ac.length a=true)(h2:inR sy.length s=true)(h3: ¬sQ sy s.toNat<q)(h4:Fix.noB p q=true)(h5: ¬sW sy s.toNat<Fix.noV p q)(h6:witB (sP sy s.toNat) p (sB sy s.toNat)=true):lokF ac sy a s p q n t=(0,Fix.noV p q):=by
 rw[no_prod h h4]at h5 ⊢;rw[Fix.noB_in (by omega) (by omega)]at h4;unfold lokF;rw[if_neg h,if_neg (by rw[h1];decide),if_neg (by rw[h2];decide),if_neg h3,if_neg (by rw[h4];decide),if_neg h5,if_neg (by rw[h6];decide)]
end
theorem look_any(sh wi ra ta:Int)(A B C:Option Addr)(c d f:Nat)(nd:List (Int×Int))(ac:List Int)(sy:List (Int×Int×Int×Nat))(a s:Int)(x:Bool)(p q n t:Int)(w:World)
  (hs:Hid (Smb w w.heap.size C sy))(hwf:Hid (WfS sy))(hp:inI p)(hq:inI q)(hmay:(ac.length:Int)≤1000000)(hmaz:(sy.length:Int)≤1000000):
  Calls Tryz.prog 91 #[.agg #[.int .i64 sh,.int .i64 wi,.int .i64 ra,.int .i64 ta,.slice A nd.length c,.slice B ac.length d,.slice C sy.length f],.agg #[.int .i64 a,.int .i64 s,.bool x,.int .i64 p,.int .i64 q,.int .i64 n,.int .i64 t]] w (Made2 (lokF ac sy a s p q n t) w):=by
 obtain⟨G,H⟩:=hp;obtain⟨I,J⟩:=hq;have j:=γ w (.cells (vC sh wi ra ta A nd.length c B ac.length d C sy.length f) 43) (.cells (vO a s x p q n t) 75);have F:Hid (Smb ((w.alloc (.cells (vC sh wi ra ta A nd.length c B ac.length d C sy.length f) 43)).alloc (.cells (vO a s x p q n t) 75)) ((w.alloc (.cells (vC sh wi ra ta A nd.length c B ac.length d C sy.length f) 43)).alloc (.cells (vO a s x p q n t) 75)).heap.size C sy):=Rd.below' hs.o j j.size;have z:=κ ((Blk.fresh w 43 (vC sh wi ra ta A nd.length c B ac.length d C sy.length f)).alloc (.cells (vO a s x p q n t) 75))
 have k:Hid (Blk ((w.alloc (.cells (vC sh wi ra ta A nd.length c B ac.length d C sy.length f) 43)).alloc (.cells (vO a s x p q n t) 75)) (w.heap.size+1) 75 (vO a s x p q n t)):=by
  have:=Blk.fresh (w.alloc (.cells (vC sh wi ra ta A nd.length c B ac.length d C sy.length f) 43)) 75 (vO a s x p q n t);simp only[World.size_alloc]at this;exact this
 have l:w.heap.size+1<((w.alloc (.cells (vC sh wi ra ta A nd.length c B ac.length d C sy.length f) 43)).alloc (.cells (vO a s x p q n t) 75)).heap.size:=by simp
 go_enter Tryz.func91,Tryz.ntmps91
 go_upto_region 1 with fail
 generalize ((w.alloc (.cells (vC sh wi ra ta A nd.length c B ac.length d C sy.length f) 43)).alloc (.cells (vO a s x p q n t) 75))=y at j F z k l ⊢;have Q:=χ (z.o.cell 5);have R:=χ (z.o.cell 6);have S:=χ (k.o.cell 0);have T:=χ (k.o.cell 1);have K:=χ (k.o.cell 3);have L:=χ (k.o.cell 4);have U:=χ (k.o.cell 5);have V:=χ (k.o.cell 6);by_cases hh0:p<1
 ·
  have E:Hid (lokF ac sy a s p q n t=(1,0)):=lok_1 (by omega)
  go_wp2_with (first|(go_at_call 127;(with_reducible refine(hasI_any _ _ _ _ _).mono ?_);rintro e g ⟨rfl,rfl⟩)|(go_at_call 128;(with_reducible refine(hasS_any _ _ _ _ _).mono ?_);rintro e g ⟨rfl,rfl⟩)|(go_at_call 129;(with_reducible refine(Fix.not_any p q _ (by omega) (by omega) (by omega) (by omega)).mono ?_);rintro e g ⟨rfl,rfl⟩)|(go_at_call 130;(with_reducible refine(Bnd.wit_any _ _ _ _ h).mono ?_);rintro e g ⟨rfl,rfl⟩))
  go_ret2;exact made2 E.o j
 by_cases hh1:q<1
 ·
  have E:Hid (lokF ac sy a s p q n t=(1,0)):=lok_1 (by omega)
  go_wp2_with (first|(go_at_call 127;(with_reducible refine(hasI_any _ _ _ _ _).mono ?_);rintro e g ⟨rfl,rfl⟩)|(go_at_call 128;(with_reducible refine(hasS_any _ _ _ _ _).mono ?_);rintro e g ⟨rfl,rfl⟩)|(go_at_call 129;(with_reducible refine(Fix.not_any p q _ (by omega) (by omega) (by omega) (by omega)).mono ?_);rintro e g ⟨rfl,rfl⟩)|(go_at_call 130;(with_reducible refine(Bnd.wit_any _ _ _ _ h).mono ?_);rintro e g ⟨rfl,rfl⟩))
  go_ret2;exact made2 E.o j
 by_cases hh2:n<0
 ·
  have E:Hid (lokF ac sy a s p q n t=(1,0)):=lok_1 (by omega)
  go_wp2_with (first|(go_at_call 127;(with_reducible refine(hasI_any _ _ _ _ _).mono ?_);rintro e g ⟨rfl,rfl⟩)|(go_at_call 128;(with_reducible refine(hasS_any _ _ _ _ _).mono ?_);rintro e g ⟨rfl,rfl⟩)|(go_at_call 129;(with_reducible refine(Fix.not_any p q _ (by omega) (by omega) (by omega) (by omega)).mono ?_);rintro e g ⟨rfl,rfl⟩)|(go_at_call 130;(with_reducible refine(Bnd.wit_any _ _ _ _ h).mono ?_);rintro e g ⟨rfl,rfl⟩))
  go_ret2;exact made2 E.o j
 by_cases hh3:t<0
 ·
  have E:Hid (lokF ac sy a s p q n t=(1,0)):=lok_1 (by omega)
  go_wp2_with (first|(go_at_call 127;(with_reducible refine(hasI_any _ _ _ _ _).mono ?_);rintro e g ⟨rfl,rfl⟩)|(go_at_call 128;(with_reducible refine(hasS_any _ _ _ _ _).mono ?_);rintro e g ⟨rfl,rfl⟩)|(go_at_call 129;(with_reducible refine(Fix.not_any p q _ (by omega) (by omega) (by omega) (by omega)).mono ?_);rintro e g ⟨rfl,rfl⟩)|(go_at_call 130;(with_reducible refine(Bnd.wit_any _ _ _ _ h).mono ?_);rintro e g ⟨rfl,rfl⟩))
  go_ret2;exact made2 E.o j
 have m:Hid (¬(p<1∨q<1∨n<0∨t<0)):=by show ¬_;omega
 cases h1:inR ac.length a
 ·
  have E:Hid (lokF ac sy a s p q n t=(3,0)):=lok_3 m.o h1
  go_wp2_with (first|(go_at_call 127;(with_reducible refine(hasI_any _ _ _ _ _).mono ?_);rintro e g ⟨rfl,rfl⟩)|(go_at_call 128;(with_reducible refine(hasS_any _ _ _ _ _).mono ?_);rintro e g ⟨rfl,rfl⟩)|(go_at_call 129;(with_reducible refine(Fix.not_any p q _ (by omega) (by omega) (by omega) (by omega)).mono ?_);rintro e g ⟨rfl,rfl⟩)|(go_at_call 130;(with_reducible refine(Bnd.wit_any _ _ _ _ h).mono ?_);rintro e g ⟨rfl,rfl⟩))
  go_ret2;exact made2 E.o j
 cases h2:inR sy.length s
 ·
  have E:=κ (lok_4 m.o h1 h2)
  go_wp2_with (first|(go_at_call 127;(with_reducible refine(hasI_any _ _ _ _ _).mono ?_);rintro e g ⟨rfl,rfl⟩)|(go_at_call 128;(with_reducible refine(hasS_any _ _ _ _ _).mono ?_);rintro e g ⟨rfl,rfl⟩)|(go_at_call 129;(with_reducible refine(Fix.not_any p q _ (by omega) (by omega) (by omega) (by omega)).mono ?_);rintro e g ⟨rfl,rfl⟩)|(go_at_call 130;(with_reducible refine(Bnd.wit_any _ _ _ _ h).mono ?_);rintro e g ⟨rfl,rfl⟩))
  go_ret2;exact made2 E.o j
 obtain⟨O,P⟩:=inR_of h2;obtain⟨b,o,rfl,W,r⟩:=Smb.at (i:=s.toNat) F.o (by omega);obtain⟨X,Y,Z,r3⟩:=r s.toNat (by omega);have h:=(hwf.o s.toNat (by omega)).2.2.2;clear r;have v:=j.alloc j.size (.cells (vF (sP sy s.toNat) (sQ sy s.toNat) (sW sy s.toNat) (sB sy s.toNat)) 103);have f2:(y.alloc (.cells (vF (sP sy s.toNat) (sQ sy s.toNat) (sW sy s.toNat) (sB sy s.toNat)) 103)).cell? (α (w.heap.size+1) 3)=some (ι p):=(World.cell?_alloc_lt y _ (α (w.heap.size+1) 3) l).trans K;have f3:(y.alloc (.cells (vF (sP sy s.toNat) (sQ sy s.toNat) (sW sy s.toNat) (sB sy s.toNat)) 103)).cell? (α (w.heap.size+1) 4)=some (ι q):=(World.cell?_alloc_lt y _ (α (w.heap.size+1) 4) l).trans L;by_cases h3:sQ sy s.toNat<q
 ·
  have E:=κ (lok_5 m.o h1 h2 h3)
  go_wp2_with (first|(go_at_call 127;(with_reducible refine(hasI_any _ _ _ _ _).mono ?_);rintro e g ⟨rfl,rfl⟩)|(go_at_call 128;(with_reducible refine(hasS_any _ _ _ _ _).mono ?_);rintro e g ⟨rfl,rfl⟩)|(go_at_call 129;(with_reducible refine(Fix.not_any p q _ (by omega) (by omega) (by omega) (by omega)).mono ?_);rintro e g ⟨rfl,rfl⟩)|(go_at_call 130;(with_reducible refine(Bnd.wit_any _ _ _ _ h).mono ?_);rintro e g ⟨rfl,rfl⟩))
  go_ret2;exact made2 E.o v
 cases h4:Fix.noB p q
 ·
  have E:=κ (lok_6 m.o h1 h2 h3 h4)
  go_wp2_with (first|(go_at_call 127;(with_reducible refine(hasI_any _ _ _ _ _).mono ?_);rintro e g ⟨rfl,rfl⟩)|(go_at_call 128;(with_reducible refine(hasS_any _ _ _ _ _).mono ?_);rintro e g ⟨rfl,rfl⟩)|(go_at_call 129;(with_reducible refine(Fix.not_any p q _ (by omega) (by omega) (by omega) (by omega)).mono ?_);rintro e g ⟨rfl,rfl⟩)|(go_at_call 130;(with_reducible refine(Bnd.wit_any _ _ _ _ h).mono ?_);rintro e g ⟨rfl,rfl⟩))
  go_ret2;exact made2 E.o v
 by_cases h5:sW sy s.toNat<Fix.noV p q
 ·
  have E:=κ (lok_7 m.o h1 h2 h3 h4 h5)
  go_wp2_with (first|(go_at_call 127;(with_reducible refine(hasI_any _ _ _ _ _).mono ?_);rintro e g ⟨rfl,rfl⟩)|(go_at_call 128;(with_reducible refine(hasS_any _ _ _ _ _).mono ?_);rintro e g ⟨rfl,rfl⟩)|(go_at_call 129;(with_reducible refine(Fix.not_any p q _ (by omega) (by omega) (by omega) (by omega)).mono ?_);rintro e g ⟨rfl,rfl⟩)|(go_at_call 130;(with_reducible refine(Bnd.wit_any _ _ _ _ h).mono ?_);rintro e g ⟨rfl,rfl⟩))
  go_ret2;exact made2 E.o v
 cases h6:witB (sP sy s.toNat) p (sB sy s.toNat)
 ·
  have E:=κ (lok_8 m.o h1 h2 h3 h4 h5 h6)
  go_wp2_with (first|(go_at_call 127;(with_reducible refine(hasI_any _ _ _ _ _).mono ?_);rintro e g ⟨rfl,rfl⟩)|(go_at_call 128;(with_reducible refine(hasS_any _ _ _ _ _).mono ?_);rintro e g ⟨rfl,rfl⟩)|(go_at_call 129;(with_reducible refine(Fix.not_any p q _ (by omega) (by omega) (by omega) (by omega)).mono ?_);rintro e g ⟨rfl,rfl⟩)|(go_at_call 130;(with_reducible refine(Bnd.wit_any _ _ _ _ h).mono ?_);rintro e g ⟨rfl,rfl⟩))
  go_ret2;exact made2 E.o v
 ·
  have E:=κ (lok_0 m.o h1 h2 h3 h4 h5 h6)
  go_wp2_with (first|(go_at_call 127;(with_reducible refine(hasI_any _ _ _ _ _).mono ?_);rintro e g ⟨rfl,rfl⟩)|(go_at_call 128;(with_reducible refine(hasS_any _ _ _ _ _).mono ?_);rintro e g ⟨rfl,rfl⟩)|(go_at_call 129;(with_reducible refine(Fix.not_any p q _ (by omega) (by omega) (by omega) (by omega)).mono ?_);rintro e g ⟨rfl,rfl⟩)|(go_at_call 130;(with_reducible refine(Bnd.wit_any _ _ _ _ h).mono ?_);rintro e g ⟨rfl,rfl⟩))
  go_ret2;exact made2 E.o v
theorem rlook_any(sh wi ra ta:Int)(A B C:Option Addr)(c d f:Nat)(nd:List (Int×Int))(ac:List Int)(sy:List (Int×Int×Int×Nat))(a s:Int)(x:Bool)(p q n t:Int)(w:World)
  (hs:Hid (Smb w w.heap.size C sy))(hwf:Hid (WfS sy))(hp:inI p)(hq:inI q)(hmay:(ac.length:Int)≤1000000)(hmaz:(sy.length:Int)≤1000000):
  Calls Tryz.prog 68 #[.agg #[.int .i64 sh,.int .i64 wi,.int .i64 ra,.int .i64 ta,.slice A nd.length c,.slice B ac.length d,.slice C sy.length f],.agg #[.int .i64 a,.int .i64 s,.bool x,.int .i64 p,.int .i64 q,.int .i64 n,.int .i64 t]] w (Made2 (lokF ac sy a s p q n t) w):=by
 obtain⟨I,J⟩:=hp;obtain⟨K,L⟩:=hq;have j:=γ w (.cells (vC sh wi ra ta A nd.length c B ac.length d C sy.length f) 31) (.cells (vO a s x p q n t) 55);have H:Hid (Smb ((w.alloc (.cells (vC sh wi ra ta A nd.length c B ac.length d C sy.length f) 31)).alloc (.cells (vO a s x p q n t) 55)) ((w.alloc (.cells (vC sh wi ra ta A nd.length c B ac.length d C sy.length f) 31)).alloc (.cells (vO a s x p q n t) 55)).heap.size C sy):=Rd.below' hs.o j j.size;have G:=κ ((Blk.fresh w 31 (vC sh wi ra ta A nd.length c B ac.length d C sy.length f)).alloc (.cells (vO a s x p q n t) 55))
 have l:Hid (Blk ((w.alloc (.cells (vC sh wi ra ta A nd.length c B ac.length d C sy.length f) 31)).alloc (.cells (vO a s x p q n t) 55)) (w.heap.size+1) 55 (vO a s x p q n t)):=by
  have:=Blk.fresh (w.alloc (.cells (vC sh wi ra ta A nd.length c B ac.length d C sy.length f) 31)) 55 (vO a s x p q n t);simp only[World.size_alloc]at this;exact this
 have m:w.heap.size+1<((w.alloc (.cells (vC sh wi ra ta A nd.length c B ac.length d C sy.length f) 31)).alloc (.cells (vO a s x p q n t) 55)).heap.size:=by simp
 go_enter Tryz.func68,Tryz.ntmps68
 go_upto_region 1 with fail
 generalize ((w.alloc (.cells (vC sh wi ra ta A nd.length c B ac.length d C sy.length f) 31)).alloc (.cells (vO a s x p q n t) 55))=F at j H G l m ⊢;have Q:=χ (G.o.cell 5);have R:=χ (G.o.cell 6);have S:=χ (l.o.cell 0);have T:=χ (l.o.cell 1);have O:=χ (l.o.cell 3);have P:=χ (l.o.cell 4);have U:=χ (l.o.cell 5);have V:=χ (l.o.cell 6);by_cases hh0:p<1
 ·
  have E:Hid (lokF ac sy a s p q n t=(1,0)):=lok_1 (by omega)
  go_wp2_with (first|(go_at_call 104;(with_reducible refine(Fix.rnot_any p q _ (by omega) (by omega) (by omega) (by omega)).mono ?_);rintro e h ⟨rfl,rfl⟩)|(go_at_call 105;(with_reducible refine(Bnd.rwit_any _ _ _ _ g).mono ?_);rintro e h ⟨rfl,rfl⟩))
  go_ret2;exact made2 E.o j
 by_cases hh1:q<1
 ·
  have E:Hid (lokF ac sy a s p q n t=(1,0)):=lok_1 (by omega)
  go_wp2_with (first|(go_at_call 104;(with_reducible refine(Fix.rnot_any p q _ (by omega) (by omega) (by omega) (by omega)).mono ?_);rintro e h ⟨rfl,rfl⟩)|(go_at_call 105;(with_reducible refine(Bnd.rwit_any _ _ _ _ g).mono ?_);rintro e h ⟨rfl,rfl⟩))
  go_ret2;exact made2 E.o j
 by_cases hh2:n<0
 ·
  have E:Hid (lokF ac sy a s p q n t=(1,0)):=lok_1 (by omega)
  go_wp2_with (first|(go_at_call 104;(with_reducible refine(Fix.rnot_any p q _ (by omega) (by omega) (by omega) (by omega)).mono ?_);rintro e h ⟨rfl,rfl⟩)|(go_at_call 105;(with_reducible refine(Bnd.rwit_any _ _ _ _ g).mono ?_);rintro e h ⟨rfl,rfl⟩))
  go_ret2;exact made2 E.o j
 by_cases hh3:t<0
 ·
  have E:Hid (lokF ac sy a s p q n t=(1,0)):=lok_1 (by omega)
  go_wp2_with (first|(go_at_call 104;(with_reducible refine(Fix.rnot_any p q _ (by omega) (by omega) (by omega) (by omega)).mono ?_);rintro e h ⟨rfl,rfl⟩)|(go_at_call 105;(with_reducible refine(Bnd.rwit_any _ _ _ _ g).mono ?_);rintro e h ⟨rfl,rfl⟩))
  go_ret2;exact made2 E.o j
 have k:Hid (¬(p<1∨q<1∨n<0∨t<0)):=by show ¬_;omega
 by_cases ha0:a<0
 ·
  have E:Hid (lokF ac sy a s p q n t=(3,0)):=lok_3 k.o (inR_f (by omega))
  go_wp2_with (first|(go_at_call 104;(with_reducible refine(Fix.rnot_any p q _ (by omega) (by omega) (by omega) (by omega)).mono ?_);rintro e h ⟨rfl,rfl⟩)|(go_at_call 105;(with_reducible refine(Bnd.rwit_any _ _ _ _ g).mono ?_);rintro e h ⟨rfl,rfl⟩))
  go_ret2;exact made2 E.o j
 by_cases ha1:(ac.length:Int)≤a
 ·
  have E:Hid (lokF ac sy a s p q n t=(3,0)):=lok_3 k.o (inR_f (by omega))
  go_wp2_with (first|(go_at_call 104;(with_reducible refine(Fix.rnot_any p q _ (by omega) (by omega) (by omega) (by omega)).mono ?_);rintro e h ⟨rfl,rfl⟩)|(go_at_call 105;(with_reducible refine(Bnd.rwit_any _ _ _ _ g).mono ?_);rintro e h ⟨rfl,rfl⟩))
  go_ret2;exact made2 E.o j
 have r:Hid (inR ac.length a=true):=inR_t (by omega) (by omega);by_cases hs0:s<0
 ·
  have E:Hid (lokF ac sy a s p q n t=(4,0)):=lok_4 k.o r.o (inR_f (by omega))
  go_wp2_with (first|(go_at_call 104;(with_reducible refine(Fix.rnot_any p q _ (by omega) (by omega) (by omega) (by omega)).mono ?_);rintro e h ⟨rfl,rfl⟩)|(go_at_call 105;(with_reducible refine(Bnd.rwit_any _ _ _ _ g).mono ?_);rintro e h ⟨rfl,rfl⟩))
  go_ret2;exact made2 E.o j
 by_cases hs1:(sy.length:Int)≤s
 ·
  have E:Hid (lokF ac sy a s p q n t=(4,0)):=lok_4 k.o r.o (inR_f (by omega))
  go_wp2_with (first|(go_at_call 104;(with_reducible refine(Fix.rnot_any p q _ (by omega) (by omega) (by omega) (by omega)).mono ?_);rintro e h ⟨rfl,rfl⟩)|(go_at_call 105;(with_reducible refine(Bnd.rwit_any _ _ _ _ g).mono ?_);rintro e h ⟨rfl,rfl⟩))
  go_ret2;exact made2 E.o j
 have v:Hid (inR sy.length s=true):=inR_t (by omega) (by omega);obtain⟨b,o,rfl,W,y⟩:=Smb.at (i:=s.toNat) H.o (by omega);obtain⟨X,Y,Z,r3⟩:=y s.toNat (by omega);have g:=(hwf.o s.toNat (by omega)).2.2.2;clear y;have z:=j.alloc j.size (.cells (vF (sP sy s.toNat) (sQ sy s.toNat) (sW sy s.toNat) (sB sy s.toNat)) 86);have f2:(F.alloc (.cells (vF (sP sy s.toNat) (sQ sy s.toNat) (sW sy s.toNat) (sB sy s.toNat)) 86)).cell? (α (w.heap.size+1) 3)=some (ι p):=(World.cell?_alloc_lt F _ (α (w.heap.size+1) 3) m).trans O;have f3:(F.alloc (.cells (vF (sP sy s.toNat) (sQ sy s.toNat) (sW sy s.toNat) (sB sy s.toNat)) 86)).cell? (α (w.heap.size+1) 4)=some (ι q):=(World.cell?_alloc_lt F _ (α (w.heap.size+1) 4) m).trans P;by_cases h3:sQ sy s.toNat<q
 ·
  have E:=κ (lok_5 k.o r.o v.o h3)
  go_wp2_with (first|(go_at_call 104;(with_reducible refine(Fix.rnot_any p q _ (by omega) (by omega) (by omega) (by omega)).mono ?_);rintro e h ⟨rfl,rfl⟩)|(go_at_call 105;(with_reducible refine(Bnd.rwit_any _ _ _ _ g).mono ?_);rintro e h ⟨rfl,rfl⟩))
  go_ret2;exact made2 E.o z
 cases h4:Fix.noB p q
 ·
  have E:=κ (lok_6 k.o r.o v.o h3 h4)
  go_wp2_with (first|(go_at_call 104;(with_reducible refine(Fix.rnot_any p q _ (by omega) (by omega) (by omega) (by omega)).mono ?_);rintro e h ⟨rfl,rfl⟩)|(go_at_call 105;(with_reducible refine(Bnd.rwit_any _ _ _ _ g).mono ?_);rintro e h ⟨rfl,rfl⟩))
  go_ret2;exact made2 E.o z
 by_cases h5:sW sy s.toNat<Fix.noV p q
 ·
  have E:=κ (lok_7 k.o r.o v.o h3 h4 h5)
  go_wp2_with (first|(go_at_call 104;(with_reducible refine(Fix.rnot_any p q _ (by omega) (by omega) (by omega) (by omega)).mono ?_);rintro e h ⟨rfl,rfl⟩)|(go_at_call 105;(with_reducible refine(Bnd.rwit_any _ _ _ _ g).mono ?_);rintro e h ⟨rfl,rfl⟩))
  go_ret2;exact made2 E.o z
 cases h6:witB (sP sy s.toNat) p (sB sy s.toNat)
 ·
  have E:=κ (lok_8 k.o r.o v.o h3 h4 h5 h6)
  go_wp2_with (first|(go_at_call 104;(with_reducible refine(Fix.rnot_any p q _ (by omega) (by omega) (by omega) (by omega)).mono ?_);rintro e h ⟨rfl,rfl⟩)|(go_at_call 105;(with_reducible refine(Bnd.rwit_any _ _ _ _ g).mono ?_);rintro e h ⟨rfl,rfl⟩))
  go_ret2;exact made2 E.o z
 ·
  have E:=κ (lok_0 k.o r.o v.o h3 h4 h5 h6)
  go_wp2_with (first|(go_at_call 104;(with_reducible refine(Fix.rnot_any p q _ (by omega) (by omega) (by omega) (by omega)).mono ?_);rintro e h ⟨rfl,rfl⟩)|(go_at_call 105;(with_reducible refine(Bnd.rwit_any _ _ _ _ g).mono ?_);rintro e h ⟨rfl,rfl⟩))
  go_ret2;exact made2 E.o z
theorem sha_n(h:sh<1∨inR n a=false):shaF sh n a= -1:=by unfold shaF;rw[if_pos h]
theorem sha_y(h:1≤sh)(h':inR n a=true):shaF sh n a=a%sh:=by
 unfold shaF;rw[if_neg];rw[h'];intro e;rcases e with e|e
 ·omega
 ·exact absurd e (by decide)
theorem shard_any(sh wi ra ta:Int)(A B C:Option Addr)(c d f:Nat)(nd:List (Int×Int))(ac:List Int)(sy:List (Int×Int×Int×Nat))(a:Int)(w:World)(hsh:inI sh)(hmay:(ac.length:Int)≤1000000):
  Calls Tryz.prog 92 #[.agg #[.int .i64 sh,.int .i64 wi,.int .i64 ra,.int .i64 ta,.slice A nd.length c,.slice B ac.length d,.slice C sy.length f],.int .i64 a] w (MadeX (shaF sh ac.length a) w):=by
 obtain⟨h,i⟩:=hsh;have b:=β w (.cells (vC sh wi ra ta A nd.length c B ac.length d C sy.length f) 43);by_cases h0:sh<1
 ·have E:Hid (shaF sh ac.length a= -1):=sha_n (.inl h0)
  go_enter Tryz.func92,Tryz.ntmps92
  go_wp2_with (go_at_call 127;(with_reducible refine(hasI_any _ _ _ _ _).mono ?_);rintro e g ⟨rfl,rfl⟩)
  go_ret;exact madeX_mk E.o b
 cases h1:inR ac.length a
 ·have E:Hid (shaF sh ac.length a= -1):=sha_n (.inr h1)
  go_enter Tryz.func92,Tryz.ntmps92
  go_wp2_with (go_at_call 127;(with_reducible refine(hasI_any _ _ _ _ _).mono ?_);rintro e g ⟨rfl,rfl⟩)
  go_ret;exact madeX_mk E.o b
 ·obtain⟨j,k⟩:=inR_of h1;have E:Hid (shaF sh ac.length a=a%sh):=sha_y (by omega) h1;have m: ¬sh=0:=by omega
  have l:=beq_eq_false_iff_ne.2 (by omega)
  go_enter Tryz.func92,Tryz.ntmps92
  go_wp2_with (go_at_call 127;(with_reducible refine(hasI_any _ _ _ _ _).mono ?_);rintro e g ⟨rfl,rfl⟩)
  go_ret;exact madeX_mk E.o b
theorem rshard_any(sh wi ra ta:Int)(A B C:Option Addr)(c d f:Nat)(nd:List (Int×Int))(ac:List Int)(sy:List (Int×Int×Int×Nat))(a:Int)(w:World)(hsh:inI sh)(hmay:(ac.length:Int)≤1000000):
  Calls Tryz.prog 69 #[.agg #[.int .i64 sh,.int .i64 wi,.int .i64 ra,.int .i64 ta,.slice A nd.length c,.slice B ac.length d,.slice C sy.length f],.int .i64 a] w (MadeX (shaF sh ac.length a) w):=by
 obtain⟨e,g⟩:=hsh;have b:=β w (.cells (vC sh wi ra ta A nd.length c B ac.length d C sy.length f) 31);by_cases h1:a<0
 ·have E:Hid (shaF sh ac.length a= -1):=sha_n (.inr (inR_f (by omega)))
  go_enter Tryz.func69,Tryz.ntmps69
  go_wp2_with fail
  go_ret;exact madeX_mk E.o b
 by_cases h2:(ac.length:Int)≤a
 ·have E:Hid (shaF sh ac.length a= -1):=sha_n (.inr (inR_f (by omega)))
  go_enter Tryz.func69,Tryz.ntmps69
  go_wp2_with fail
  go_ret;exact madeX_mk E.o b
 by_cases h0:sh<1
 ·have E:Hid (shaF sh ac.length a= -1):=sha_n (.inl h0)
  go_enter Tryz.func69,Tryz.ntmps69
  go_wp2_with fail
  go_ret;exact madeX_mk E.o b
 ·have E:Hid (shaF sh ac.length a=a%sh):=sha_y (by omega) (inR_t (by omega) (by omega));have i: ¬sh=0:=by omega
  have h:=beq_eq_false_iff_ne.2 (by omega)
  go_enter Tryz.func69,Tryz.ntmps69
  go_wp2_with fail
  go_ret;exact madeX_mk E.o b
def MadeO(a s:Int)(x:Bool)(p q n t:Int)(w:World)(e:Ending)(w':World):Prop:=e= .returned (.agg #[.int .i64 a,.int .i64 s,.bool x,.int .i64 p,.int .i64 q,.int .i64 n,.int .i64 t])∧Below w.heap.size w w'
theorem order_any(a s:Int)(x:Bool)(p q n t:Int)(w:World):
  Calls Tryz.prog 24 #[.agg #[.int .i64 a,.int .i64 s,.bool x,.int .i64 p,.int .i64 q,.int .i64 n,.int .i64 t]] w (MadeO a s x p q n t w):=by
 go_enter Tryz.func24,Tryz.ntmps24
 go_wp2_with fail
 exact bodyPost_ret (v:= .agg #[ι a,ι s,.bool x,ι p,ι q,ι n,ι t]) (by simp[results,Tryz.results24,go_sem]) rfl ⟨rfl,(ψ.alloc τ _).alloc (by simp) _⟩
end Rul3
end Go.Proofs.YtcccdikhfgpamaaGreat
